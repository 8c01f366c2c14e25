import PyProof.Rows.All
import Wide.All
import OpenK.AllK
import Wide.FinOn
import HandS.ForMost
import HandS.ForExc
import PyProof.ReprRoads
import HandS.TupSets
import KE.KeyNested
import KE.SortData
import KE.KOpsOwn
import KE.KFmtOwn
import HandS.IsInst
import HandS.SlotsOwn
import KE.DataEq
import HandS.Deep
import HandS.TupAny
import HandS.TupMul
import HandS.Style
import HandS.Star
import HandS.FStr
import HandS.ClsMeth
import HandS.Property
import HandS.CallLocal
import HandS.Lambda
import HandS.EndTab
import HandS.Walk
import KE.LtData
import HandS.TryOnly
import HandS.TryMany
import HandS.ExcField
import HandS.Defaults
import PySem.Challenge.RW_chosentrees_k32_filters_made_and_combine
set_option Elab.async false
set_option linter.all false
set_option maxRecDepth 100000
set_option maxHeartbeats 2000000
namespace CG
open PySem PySem.Spec PyProof.Rows L2
/-! a def's promise where no repr is under way around the call -/
structure FnG (P : Program) (w : World) (K : PySem.W.Frag) (mg : Str → Option Value) (base : Heap) (CX : CXT)
    (k : Nat) (f : Addr) (fd : FuncData) (ps : List Str) (sp : Sp) : Prop where
  len : ∀ vs H Q E, sp vs H Q E → vs.length = ps.length
  run : ∀ (A : Around) (outer : List Env) (s : Shared) (H : Hp) (args : Args) (us : List Value) (vs : List V) (Q : VK) (E : XK),
    Room k A → A.guards = some [] → Env0 P w K mg base A outer s H → BindsTo s fd args (ps.zip us) → Vals vs us →
    sp vs H Q E → codeAny (model P w) A (.call (.ref f) args) (CR CX outer P w H s Q E) s
section
variable {P : Program} {w : World} {K : PySem.W.Frag} {mg : Str → Option Value} {base : Heap} {CX : CXT} {k : Nat}
  {f : Addr} {fd : FuncData} {ps N : List Str} {sp : Sp}
theorem FnG.of (F : FnOk P w K mg base CX k f fd ps sp) : FnG P w K mg base CX k f fd ps sp :=
  ⟨F.len, fun A o s H a us vs Q E r _ => F.run A o s H a us vs Q E r⟩
theorem FnG.imp {sp' : Sp} (F : FnG P w K mg base CX k f fd ps sp) (h : ∀ vs H Q E, sp' vs H Q E → sp vs H Q E) :
    FnG P w K mg base CX k f fd ps sp' :=
  ⟨fun vs H Q E q => F.len vs H Q E (h _ _ _ _ q), fun A o s H a us vs Q E r g e b v q => F.run A o s H a us vs Q E r g e b v (h _ _ _ _ q)⟩
/-- the body is walked for each entry at which no repr is under way -/
theorem fnG_of {x qual : Str} {st : Stmt} (F : Fun K x qual st f fd) (S : FnScope N ps (defScope st))
    (len : ∀ vs H Q E, sp vs H Q E → vs.length = ps.length)
    (body : ∀ (cdv : Value) (A : Around) (outer : List Env) (s : Shared) (H : Hp) (vs : List V) (Q : VK) (E : XK),
      Room k (A.deeper (envOfC qual (defScope st) s.heap.objs.size f cdv)) → A.guards = some [] → sp vs H Q E →
      ∃ t, PSs (cxOf CX P w K mg base N qual (defScope st) f cdv A outer s H E) (defBody st) t ∧
        t { nx := fun _ H' => Q .non H', rt := Q } (start N vs) H) :
    FnG P w K mg base CX (k + 1) f fd ps sp := by
  obtain ⟨oc, od, kV, doc, pm, an, cdv, ct, osl, rfl, lk, hcd⟩ := F.ex
  constructor
  · exact len
  intro A outer s H args us vs Q E room gd env bnd rel want
  have old := fun b o e => (env.bs b o e).1
  have kin : K.In s.heap := env.mod.kin.keeps old
  have free : s.heap.NoLimit := env.mod.nolimit.keeps old
  refine codeAny_call_function room.depth (kin _ _ lk) rfl S.co S.gen rfl (PySem.W.codeRec_of kin hcd) (bnd _ _ _ _ ?_)
  refine wpAny_newFunctionEnv_cells S.kind ?_ ?_
  · rintro ⟨n, v⟩ hm
    cases S.par n (List.of_mem_zip hm).1 with
    | inl z => exact .inl z
    | inr z => exact .inr ⟨z, PySem.W.cellsFrom_some _ _ _ (.inl z)⟩
  · intro en hen s1 C
    subst hen
    refine ⟨free.keeps C.toInCall.keep, codeAny_func ?_⟩
    obtain ⟨t, walk, start0⟩ := body cdv A outer s H vs Q E (room.deeper _) gd want
    have I0 := inv_start (CX := CX) (E := E) S room.hd env (len _ _ _ _ want) rel C
    refine wpAny_mono (walk.run [] s1 _ H _ I0 start0) ?_ (fun _ _ z => z)
    intro fl s' z
    cases fl with
    | next =>
      obtain ⟨σ2, H2, J, q⟩ := z
      exact ⟨.non, H2, J.os, J.bare, J.base, J.hok, rfl, q⟩
    | ret u =>
      obtain ⟨v, σ2, H2, J, rv, q⟩ := z
      exact ⟨v, H2, J.os, J.bare, J.base, J.hok, rv, q⟩
    | brk => exact z.elim fun _ z => z.elim fun _ z => z.2.elim
    | cont => exact z.elim fun _ z => z.elim fun _ z => z.2.elim
end
section
variable {X : Cx} {CX : CXT} {k : Nat} {f : Addr} {fd : FuncData} {ps : List Str} {sp : Sp} {E : XK} {x : Str} {p pos : Pos} {e : Expr}
  {es : List Expr} {t : TA}
theorem runG {pins : List (Addr × Obj)} {σ : L2.St} {H : Hp} {s : Shared} {Q : VK} {us : List Value} {vs : List V}
    (F : FnG X.prog X.w X.K X.mg X.base CX k f fd ps sp) (hr : Room k X.A) (hg : X.A.guards = some []) (hb : Binds X.K fd ps [])
    (hx : Passes CX X E) (I : Inv X pins σ H s) (r : Vals vs us) (h : sp vs H Q E) :
    wpAny (model X.prog X.w) X.A (call (.ref f) us) (EP X pins σ Q) X.xe s := by
  have hl : (us ++ []).length = ps.length := by rw [List.append_nil, ← r.length]; exact F.len _ _ _ _ h
  have hb' := hb s us I.kIn hl
  rw [List.append_nil] at hb'
  refine wpAny_call (codeAny_mono (F.run X.A X.stack s H _ us vs Q E hr hg I.env0 hb' r h) ?_)
  intro r s' hq
  match r, hq with
  | .error er, hq => exact hx pins σ H s er s' I hq
  | .ok (.ret u), hq => exact I.after hq
/-- f(e, ..) of such a def -/
theorem pe_callG (F : FnG X.prog X.w X.K X.mg X.base CX k f fd ps sp) (hr : Room k X.A) (hgd : X.A.guards = some []) (hg : Gl X x)
    (hm : X.mg x = some (.ref f)) (hk : PySem.W.keepIn X.K (.ref f) = true) (hb : Binds X.K fd ps []) (hx : Passes CX X E)
    (ha : PA X (e :: es) t) (hdb : (x == ("__debug__" : Str)) = false := by decide)
    (he : starEach (e :: es) X.env = (false, eval e X.env) :: starEach es X.env := by rfl)
    (hpl : (backTo pos (starEach es X.env)).any (·.1) = false := by rfl) :
    PE X (.Call (.Name x p) (e :: es) [] pos) (fun σ H Q => t σ H fun vs H1 => sp vs H1 Q E) := by
  constructor
  intro pins s σ H Q I h
  refine wpAny_Call_Name_kw (ld_glob I hg hm ?_ hdb)
  refine PySem.W.callWith_K (h₀ := X.base) I.ok.mod.kin hk (thn (ha.run pos pins s σ H _ I h) ?_) he hpl
  rintro us s1 ⟨vs, H1, I1, r1, q1⟩
  exact ⟨I1.kIn, runG F hr hgd hb hx I1 r1 q1⟩
end
end CG
set_option Elab.async false
set_option linter.all false
set_option maxRecDepth 100000
set_option maxHeartbeats 2000000
namespace CG
open PySem PySem.Spec PyProof.Rows L2
/-! ### the law's call from the head, for a promise of the G kind -/
/-- the heap at the law's call: the script alone, if the top does not hold it -/
def scriptHp (K : PySem.W.Frag) (a : Addr) (vs : List Value) (ns : List Int) : Hp := fun b =>
  if b = a ∧ K.lookup a = none then some (.frz { cls := .type "list", data := .seq vs.toArray } (.lst (ns.map V.int))) else none
theorem scriptHp_some {K : PySem.W.Frag} {a b : Addr} {vs : List Value} {ns : List Int} {u : HO} (h : scriptHp K a vs ns b = some u) :
    b = a ∧ K.lookup a = none ∧ u = .frz { cls := .type "list", data := .seq vs.toArray } (.lst (ns.map V.int)) := by
  unfold scriptHp at h
  split at h
  · rename_i z; cases h; exact ⟨z.1, z.2, rfl⟩
  · cases h
theorem lawG {P : Program} {w : World} {K : PySem.W.Frag} {mg mb : Str → Option Value} {k : Nat} {fa a : Addr} {fd : FuncData} {x : Str} {sp : Sp}
    {s₁ : Shared} {vs : List Value} {ns : List Int} (inK : K.In s₁.heap) (g : s₁.heap.Ns mainGlobals mg) (bl : s₁.heap.Ns builtinsNs mb)
    (bt : ∀ x : Str, x ≠ "__name__" → mb x = bootBuiltins x) (nl : s₁.heap.NoLimit) (gens : s₁.gens = #[])
    (obj : s₁.heap.get? a = some { cls := .type "list", data := .seq vs.toArray }) (hInts : IntsAre vs ns) (short : ns.length ≤ sizeLine) (room : Room k callerA)
    (F : ∀ base : Heap, K.In base → base.Ns mainGlobals mg → FnG P w K mg base CX0 k fa fd [x] sp)
    (bnd : ∀ (s : Shared) (u : Value), BindsTo s fd ⟨[u], []⟩ [(x, u)])
    (want : ∀ H : Hp, SqL K H a (ns.map V.int) → sp [.ref a] H (fun v _ => v = .bl true) E0) :
    codeAny (model P w) callerA (.call (.ref fa) ⟨[.ref a], []⟩)
      (fun r s' => r = .ok (.ret (.bool true)) ∧ OldK s₁.heap s'.heap ∧ s'.os = s₁.os ∧ AllBare s'.gens) s₁ := by
  have many := hInts.length
  generalize hH : scriptHp K a vs ns = H
  have sees : SqL K H a (ns.map V.int) := by
    cases e : K.lookup a with
    | none => exact .inl (.inr ⟨_, by rw [← hH]; exact if_pos ⟨rfl, e⟩⟩)
    | some o =>
      have z := inK a o e
      rw [obj] at z
      cases z
      exact .inr ⟨_, vs.toArray, _, e, rfl, rfl, rfl, by rw [List.size_toArray, many]; exact short, by simpa using vals_ints hInts⟩
  have ok : HOk P w H s₁.heap := by
    intro b u e
    rw [← hH] at e
    obtain ⟨rfl, _, rfl⟩ := scriptHp_some e
    exact ⟨obj, by rw [List.length_map]; exact short, vs, _, vals_ints hInts, obj⟩
  have hid : ∀ {b : Addr} {o : Obj}, s₁.heap.get? b = some o → (∀ u, H b = some u → False) → (hidT s₁.heap H).get? b = some o := by
    intro b o e n
    refine hidT_get e ?_
    cases q : H b with
    | none => rfl
    | some u => exact (n u q).elim
  have hidNs : ∀ {b : Addr} {m : Str → Option Value}, s₁.heap.Ns b m → (hidT s₁.heap H).Ns b m := by
    rintro b m ⟨o, es, ep, e, d, r⟩
    refine ⟨o, es, ep, hid e fun u q => ?_, d, r⟩
    rw [← hH] at q
    obtain ⟨rfl, _, _⟩ := scriptHp_some q
    rw [obj] at e
    cases e
    cases d
  have hidK : K.In (hidT s₁.heap H) := by
    intro b o e
    refine hid (inK b o e) fun u q => ?_
    rw [← hH] at q
    obtain ⟨rfl, z, _⟩ := scriptHp_some q
    rw [z] at e
    cases e
  have env : Env0 P w K mg (hidT s₁.heap H) callerA [] s₁ H := {
    frames := rfl
    mod := ⟨hidK, hidNs g, ⟨mb, hidNs bl, bt⟩, by obtain ⟨mc, h1, h2⟩ := nl; exact ⟨mc, hidNs h1, h2⟩⟩
    bs := fun b o e => of_hidT e
    bsz := Nat.le_of_eq (hidT_size _ _)
    funs := trivial
    frf := fun b z => by cases z
    hok := ok
    bare := .of_eq gens }
  refine codeAny_mono ((F _ hidK (hidNs g)).run callerA [] s₁ H _ [.ref a] [.ref a] _ _ room rfl env (bnd s₁ (.ref a)) (.cons rfl .nil) (want H sees)) ?_
  intro r s' h
  match r, h with
  | .ok (.ret u), ⟨v, H', os, bare, un, ok', rel, q⟩ =>
    have q' : v = .bl true := q
    subst q'
    have rel' : u = Value.bool true := rel
    subst rel'
    refine ⟨rfl, OldK.of_keep fun b o e => ?_, os, bare⟩
    cases q : H b with
    | none => exact un.keep b o e q (by intro z; cases z) (by intro z; cases z)
    | some u =>
      have q0 := q
      rw [← hH] at q
      obtain ⟨rfl, _, rfl⟩ := scriptHp_some q
      obtain ⟨e2, _⟩ := ok' b _ (un.frzs b _ _ q0)
      rw [obj] at e
      cases e
      exact e2
theorem walkG {l : PySem.W.OpenLaw} {n k : Nat} {q : Program} {loose : List Str} {XP : (Str → Option Value) → Heap → Prop} {YP : World → Heap → Prop}
    {d : DefRec} {K : Params → PySem.W.Frag} {sp : PySem.W.Frag → Sp} {x : Str}
    (hn : l.most = some n) (hn2 : n ≤ sizeLine) (hdf : d.params.defaults = []) (room : Room k callerA)
    (hY : ∀ (w : World) (h : Heap), YP w h → (K w.params).In h)
    (F : ∀ (w : World) (mg : Str → Option Value) (fa : Addr) (h : Heap), (K w.params).In h → h.Ns mainGlobals mg → mg d.name = some (.ref fa) →
      ∃ fd : FuncData, (∀ (s : Shared) (u : Value), BindsTo s fd ⟨[u], []⟩ [(x, u)]) ∧
        ∀ base : Heap, (K w.params).In base → base.Ns mainGlobals mg → FnG l.prog w (K w.params) mg base CX0 k fa fd [x] (sp (K w.params)))
    (want : ∀ (K : PySem.W.Frag) (H : Hp) (a : Addr) (ns : List Int), ns.length ≤ n → SqL K H a (ns.map V.int) → sp K [.ref a] H (fun v _ => v = .bl true) E0) :
    PySem.W.WalkO q loose XP YP l.row.toRowW d [] (fun f vs => PySem.call f vs) := by
  refine Att.attach_call hn hdf ?_
  intro w s₀ s₁ mg mb fa o pm cd doc a vs ns G Y ho hd hcd hmg hobj hints hlen hg
  obtain ⟨fd, hb, hF⟩ := F w mg fa _ (hY w _ Y) G.T.g hmg
  exact lawG (hY w _ Y) G.T.g G.T.b G.T.builtins G.T.nolimit hg hobj hints (Nat.le_trans hlen hn2) room hF hb fun H z => want _ H a ns hlen z
/-! ### operators -/
section
variable {X : Cx}
/-- ** where the result is below some million bits -/
theorem op_powB : OpR X (binaryOp .Pow) (rI (fun i j => 0 ≤ j ∧ (Builtin.Int.intBits i : Int) * j ≤ 2 ^ 27) fun i j => .int (i ^ j.toNat)) :=
  opI fun _ _ _ _ _ _ _ hc q => pow_int hc.1 hc.2 q
/-- a text by a number -/
theorem op_mul_str : OpR X (binaryOp .Mult) (fun x y H Q => ∃ z n, x = .str z ∧ y = .int n ∧ MulOk z n ∧ Q (.str (Txt.mul z n)) H) := by
  intro pins s σ H x y v u Q I rx ry h
  obtain ⟨z, n, rfl, rfl, ok, q⟩ := h
  obtain ⟨t, rfl⟩ := rx
  obtain ⟨t', rfl⟩ := ry
  exact SB.mul ok fun t1 k => ⟨.str _, H, I.tok k, ⟨_, rfl⟩, q⟩
/-- repr of what reads as data -/
def ReadsAs (X : Cx) (H : Hp) (v : V) (d : PyData) : Prop :=
  ∀ (pins : List (Addr × Obj)) (σ : L2.St) (s : Shared) (u : Value), Inv X pins σ H s → RelV v u → ∃ as, Reads s.heap u d as ∧ (d.hasDict = true → sysModules ∉ as)
theorem call_repr_data (hg : X.A.guards = some []) : CallR X (.builtin "repr") (fun xs H Q => ∃ a d, xs = [.ref a] ∧ ReadsAs X H (.ref a) d ∧ d.showable = true ∧
    X.A.units + (d.depth + 1) < cLine ∧ d.shown.length ≤ sizeLine ∧ Q (.str d.shown) H) := by
  intro pins s σ H xs us Q I r h
  obtain ⟨a, d, rfl, rd, sh, room, short, q⟩ := h
  obtain ⟨u, rfl, ru⟩ := vals1 r
  have ru' : u = Value.ref a := ru
  subst ru'
  obtain ⟨as, r1, nd⟩ := rd pins σ s _ I rfl
  exact repr_of_reads' r1 sh nd hg room (fun _ _ e => e) (fun h' t tk kp => ⟨.str _, H, I.kept kp, ⟨_, rfl⟩, q⟩) short
end
end CG
set_option Elab.async false
set_option linter.all false
set_option maxRecDepth 100000
set_option maxHeartbeats 2000000
namespace SN
open PySem PySem.Spec PyProof.Rows L2
/-! ### what a set asks of the tuples that it holds -/
structure Fit {P : Program} {w : World} {κ : Type} [DecidableEq κ] (kd : HeapKind P w κ) : Prop where
  hold : ∀ {h h' : Heap} {k : κ} {b : Addr}, (∀ c u vs m, h.get? c = some u → u.data = .seq vs m → h'.get? c = some u) → kd.is h k b → kd.is h' k b
  noCls : ∀ {A : Around} {E : Value → Shared → Prop} {s : Shared} {k : κ} {b : Addr} {Q : Bool → Shared → Prop}, kd.is s.heap k b → Q false s →
    wpAny (model P w) A (ofAClassStatement 8 (.ref b)) Q E s
  byVal : ∀ {A : Around} {E : Value → Shared → Prop} {s : Shared} {k : κ} {b : Addr} {Q : Bool → Shared → Prop}, kd.is s.heap k b → (∀ r, Q r s) →
    wpAny (model P w) A (hashByValue 8 (.ref b)) Q E s
section
variable {P : Program} {w : World}
theorem flat_cls {v : Value} (h : ∀ a, v ≠ .ref a) (n : Nat) : ofAClassStatement n v = pure false := by
  cases v <;> first | exact absurd rfl (h _) | (cases n <;> rfl)
mutual
theorem cls_key : ∀ (k : NestedKey) (v : Value) (n : Nat) (s : Shared), NestedIs s.heap k v → k.depth ≤ n → ∀ (A : Around) (E : Value → Shared → Prop) (Q : Bool → Shared → Prop), Q false s → wpAny (model P w) A (ofAClassStatement n v) Q E s
  | .none, _, n, s, x, _, A, E, Q, q => by cases x; rw [flat_cls (by intro a z; cases z)]; exact wpAny_pure q
  | .num i, _, n, s, x, _, A, E, Q, q => by cases x <;> (rw [flat_cls (by intro a z; cases z)]; exact wpAny_pure q)
  | .text y, _, n, s, x, _, A, E, Q, q => by cases x; rw [flat_cls (by intro a z; cases z)]; exact wpAny_pure q
  | .tup ks, _, n, s, x, hn, A, E, Q, q => by
    cases x with
    | @tup a o vs m _ hg hc hd hk =>
      simp only [NestedKey.depth] at hn
      cases n with
      | zero => omega
      | succ n =>
        unfold ofAClassStatement
        refine wpAny_bind (wpAny_typeOf (T := "tuple") ⟨o, hg, hc⟩ ?_)
        simp only [show (("tuple" : String) == "tuple") = true by decide, if_true, Bool.not_true, Bool.false_eq_true, if_false]
        try refine wpAny_bind (wpAny_pure ?_)
        try simp only [Bool.not_true, Bool.false_eq_true, if_false]
        try refine wpAny_bind (wpAny_pure ?_)
        refine wpAny_bind (m := seqItems? (.ref a)) (wpAny_seqItems hg hd ?_)
        refine wpAny_bind ?_
        show wpAny _ _ (forIn vs _ _) _ _ s
        rw [← Array.forIn_toList]
        refine wpAny_forIn_list _ (fun left acc z => acc.1 = none ∧ z = s ∧ ∀ u ∈ left, ∀ (A : Around) (E : Value → Shared → Prop) (Q : Bool → Shared → Prop), Q false s → wpAny (model P w) A (ofAClassStatement n u) Q E s) _ ?_ ?_ _ _
          ⟨rfl, rfl, cls_keys ks _ n s hk (by omega)⟩
        · rintro u left acc z ⟨e1, rfl, al⟩
          refine wpAny_bind (al u List.mem_cons_self _ _ _ ?_)
          simp only [Bool.false_eq_true, if_false]
          exact wpAny_pure ⟨rfl, rfl, fun y hy => al y (List.mem_cons_of_mem _ hy)⟩
        · rintro ⟨o1, o2⟩ z ⟨e1, rfl, _⟩
          simp only at e1
          subst e1
          exact wpAny_pure q
theorem cls_keys : ∀ (ks : List NestedKey) (vs : List Value) (n : Nat) (s : Shared), NestedAll s.heap ks vs → NestedKey.depthAll ks ≤ n → ∀ u ∈ vs, ∀ (A : Around) (E : Value → Shared → Prop) (Q : Bool → Shared → Prop), Q false s → wpAny (model P w) A (ofAClassStatement n u) Q E s
  | [], _, n, s, x, _, u, hu => by cases x; cases hu
  | k :: ks, _, n, s, x, hn, u, hu => by
    cases x with
    | cons x1 x2 =>
      simp only [NestedKey.depthAll] at hn
      rcases List.mem_cons.mp hu with e | hu
      · rw [e]; exact cls_key k _ n s x1 (by omega)
      · exact cls_keys ks _ n s x2 (by omega) u hu
end
mutual
theorem val_key : ∀ (k : NestedKey) (v : Value) (n : Nat) (s : Shared), NestedIs s.heap k v → k.depth ≤ n → ∀ (A : Around) (E : Value → Shared → Prop) (Q : Bool → Shared → Prop), (∀ r, Q r s) → wpAny (model P w) A (hashByValue n v) Q E s
  | .none, _, n, s, x, _, A, E, Q, q => by cases x; cases n <;> exact wpAny_pure (q _)
  | .num i, _, n, s, x, _, A, E, Q, q => by cases x <;> cases n <;> exact wpAny_pure (q _)
  | .text y, _, n, s, x, _, A, E, Q, q => by cases x; cases n <;> exact wpAny_pure (q _)
  | .tup ks, _, n, s, x, hn, A, E, Q, q => by
    cases x with
    | @tup a o vs m _ hg hc hd hk =>
      simp only [NestedKey.depth] at hn
      cases n with
      | zero => omega
      | succ n =>
        unfold hashByValue
        refine wpAny_bind (wpAny_specialOf (T := "tuple") ⟨o, hg, hc⟩ F.slot_tuple_hash.lookup ?_)
        refine wpAny_bind (m := seqItems? (.ref a)) (wpAny_seqItems hg hd ?_)
        refine wpAny_bind ?_
        show wpAny _ _ (forIn vs _ _) _ _ s
        rw [← Array.forIn_toList]
        refine wpAny_forIn_list _ (fun left acc z => acc.1 = none ∧ z = s ∧ ∀ u ∈ left, ∀ (A : Around) (E : Value → Shared → Prop) (Q : Bool → Shared → Prop), (∀ r, Q r s) → wpAny (model P w) A (hashByValue n u) Q E s) _ ?_ ?_ _ _
          ⟨rfl, rfl, val_keys ks _ n s hk (by omega)⟩
        · rintro u left acc z ⟨e1, rfl, al⟩
          refine wpAny_bind (al u List.mem_cons_self _ _ _ fun r => ?_)
          cases r with
          | true =>
            simp only [Bool.not_true, Bool.false_eq_true, if_false]
            exact wpAny_pure ⟨rfl, rfl, fun y hy => al y (List.mem_cons_of_mem _ hy)⟩
          | false =>
            simp only [Bool.not_false, if_true]
            exact wpAny_pure (wpAny_pure (q false))
        · rintro ⟨o1, o2⟩ z ⟨e1, rfl, _⟩
          simp only at e1
          subst e1
          exact wpAny_pure (q true)
theorem val_keys : ∀ (ks : List NestedKey) (vs : List Value) (n : Nat) (s : Shared), NestedAll s.heap ks vs → NestedKey.depthAll ks ≤ n → ∀ u ∈ vs, ∀ (A : Around) (E : Value → Shared → Prop) (Q : Bool → Shared → Prop), (∀ r, Q r s) → wpAny (model P w) A (hashByValue n u) Q E s
  | [], _, n, s, x, _, u, hu => by cases x; cases hu
  | k :: ks, _, n, s, x, hn, u, hu => by
    cases x with
    | cons x1 x2 =>
      simp only [NestedKey.depthAll] at hn
      rcases List.mem_cons.mp hu with e | hu
      · rw [e]; exact val_key k _ n s x1 (by omega)
      · exact val_keys ks _ n s x2 (by omega) u hu
end
theorem fit_nested : Fit (nestedKind P w) where
  hold := fun k x => ⟨NestedIs.at k _ _ x.1, x.2⟩
  noCls := fun {A E s k b Q} x q => cls_key _ _ 8 s x.1 x.2 A E Q q
  byVal := fun {A E s k b Q} x q => val_key _ _ 8 s x.1 x.2 A E Q q
end
end SN
set_option Elab.async false
set_option linter.all false
set_option maxRecDepth 100000
set_option maxHeartbeats 4000000
namespace SN
open PySem PySem.Spec PyProof.Rows L2
section
variable {P : Program} {w : World} {κ : Type} [DecidableEq κ]
/-- the rows of a table that holds these, in the order of its slots -/
def cells (kd : HeapKind P w κ) (R : List (Addr × κ)) : List (Int × Value) := R.map fun e => (kd.hash e.2, Value.ref e.1)
theorem cells_len (kd : HeapKind P w κ) (R : List (Addr × κ)) : (cells kd R).length = R.length := List.length_map ..
/-- a set of such tuples -/
structure Bag (kd : HeapKind P w κ) (h : Heap) (a : Addr) (R : List (Addr × κ)) (es : Array (Int × Value)) (ep : Nat) (t : SetTable) : Prop where
  obj : ∃ o, h.get? a = some o ∧ o.ExactSet ∧ o.data = .set es ep t
  lay : es.toList = cells kd R
  tok : TabOk t (R.map fun e => kd.hash e.2)
  dis : (R.map (·.2)).Nodup
  mem : ∀ e ∈ R, kd.is h e.2 e.1
  ord : w.params.followText "set-order" = true ∨ t.led = true
  gap : R.length * 5 < t.mask * 3
variable {kd : HeapKind P w κ} {A : Around} {E : Value → Shared → Prop} {s : Shared} {a : Addr} {R : List (Addr × κ)} {es : Array (Int × Value)} {ep : Nat} {t : SetTable}
theorem lay_size (h : es.toList = cells kd R) : es.size = R.length := by
  rw [← Array.length_toList, h, cells_len]
theorem Bag.size {h : Heap} (B : Bag kd h a R es ep t) : es.size = R.length := lay_size B.lay
theorem Bag.few {h : Heap} (B : Bag kd h a R es ep t) : R.length ≤ 76 := by
  have g := B.gap
  rcases B.tok.mok with e | e | e <;> rw [e] at g <;> omega
theorem fits_of {t : SetTable} {n : Nat} (h1 : t.place.size = n) (h2 : t.dummies = #[]) (h3 : n ≤ t.mask) : t.fits n = true := by
  simp only [SetTable.fits, SetTable.fill, h2, Bool.and_eq_true, beq_iff_eq, decide_eq_true_eq]
  exact ⟨h1, by show t.place.size + 0 ≤ t.mask; omega⟩
theorem Bag.fits {h : Heap} (B : Bag kd h a R es ep t) : t.fits es.size = true := by
  have g := B.gap
  have z := B.tok.sz
  rw [List.length_map] at z
  exact fits_of (by rw [z, B.size]) B.tok.dm (by rw [B.size]; omega)
theorem row_at (h : es.toList = cells kd R) {i : Nat} {e : Addr × κ} (hi : R[i]? = some e) : es[i]? = some (kd.hash e.2, Value.ref e.1) := by
  have z : (cells kd R)[i]? = some (kd.hash e.2, Value.ref e.1) := by
    unfold cells
    rw [List.getElem?_map, hi]
    rfl
  rw [← h, Array.getElem?_toList] at z
  exact z
theorem no_way {t : SetTable} {hs : List Int} (T : TabOk t hs) : t.gaveWay = false := by
  unfold SetTable.gaveWay
  rw [mask_odd T.mok]
  decide
/-! ### the search -/
theorem nth_dummy (m : Nat) : ∀ (c : Nat) (p : SetTable.Probe), p.dummy = none → (nth m p c).dummy = none
  | 0, _, h => h
  | c + 1, p, h => nth_dummy m c (adv m p) (by unfold adv; split <;> exact h)
/-- the probe's c-th stand for a hash -/
abbrev stand (m : Nat) (g : Int) (c : Nat) : SetTable.Probe := nth m (runAt m (SetTable.bits g % (m + 1)) (SetTable.bits g)) c
theorem quiet_pair (ft : Fit kd) {k : κ} {x : Addr} (hx : kd.is s.heap k x) {ys : List Value} (hy : ∀ y ∈ ys, ∃ k' c, y = Value.ref c ∧ kd.is s.heap k' c) {Q : Bool → Shared → Prop} (q : Q false s) :
    wpAny (model P w) A (searchCouldBeSeen (.ref x) ys) Q E s := by
  unfold searchCouldBeSeen
  refine wpAny_bind (wpAny_forIn_list _ (fun left acc z => acc.1 = none ∧ z = s ∧ ∀ y ∈ left, ∃ k' c, y = Value.ref c ∧ kd.is s.heap k' c) _ ?_ ?_ _ _ ⟨rfl, rfl, hy⟩)
  · rintro y left acc z ⟨_, rfl, al⟩
    obtain ⟨k', c, rfl, hc⟩ := al y List.mem_cons_self
    have go : ∀ y ∈ left, ∃ k' c, y = Value.ref c ∧ kd.is z.heap k' c := fun y hy => al y (List.mem_cons_of_mem _ hy)
    dsimp only
    rcases Bool.eq_false_or_eq_true (x == c || (carriedByValue (.ref x) && carriedByValue (.ref c))) with e | e
    · exact wp_if_pos e (wpAny_pure ⟨rfl, rfl, go⟩)
    · refine wp_if_neg (by rw [e]; decide) (wpAny_bind (kd.quiet hx ?_))
      simp only [Bool.not_true, Bool.false_eq_true, if_false]
      refine wpAny_bind (kd.quiet hc ?_)
      simp only [Bool.not_true, Bool.false_eq_true, if_false]
      refine wpAny_bind (ft.noCls hx ?_)
      simp only [Bool.false_eq_true, if_false]
      refine wpAny_bind (ft.noCls hc ?_)
      simp only [Bool.false_eq_true, if_false]
      exact wpAny_pure ⟨rfl, rfl, go⟩
  · rintro ⟨o1, o2⟩ z ⟨e1, rfl, _⟩
    simp only at e1
    subst e1
    exact wpAny_pure q
theorem seek (ft : Fit kd) (B : Bag kd s.heap a R es ep t) {x : Addr} {k : κ} (hx : kd.is s.heap k x) (rm : kd.room A) {N : Nat} (nb : N < 10 * SetTable.turns t.mask)
    (nf : way t.mask (kd.hash k) N ∉ t.place.toList) (nl : ∀ c, c < N → way t.mask (kd.hash k) c ∈ t.place.toList) {Q : SetFound → Shared → Prop}
    (yes : k ∈ R.map (·.2) → Q (.there none) s) (no : k ∉ R.map (·.2) → Q (.free (way t.mask (kd.hash k) N) false) s) :
    ∀ (fuel c : Nat) (from? : Option SetTable.Probe), from?.getD (t.probeStart (kd.hash k)) = stand t.mask (kd.hash k) c → c ≤ N → N - c < fuel →
      (∀ (i : Nat) (e : Addr × κ), R[i]? = some e → e.2 = k → ∃ c', c ≤ c' ∧ c' < N ∧ t.place.toList[i]? = some (way t.mask (kd.hash k) c')) →
      wpAny (model P w) A (setSearchFrom a (.ref x) (kd.hash k) true fuel from?) Q E s := by
  intro fuel
  induction fuel with
  | zero => intro c _ _ _ lt _; exact absurd lt (Nat.not_lt_zero _)
  | succ fuel ih =>
    intro c from? st le lt ahead
    obtain ⟨o, ho, hex, hd⟩ := B.obj
    have hash_at : ∀ (i : Nat) (e : Addr × κ), R[i]? = some e → (es[i]?.map (·.1)).getD 0 = kd.hash e.2 := fun i e hi => by rw [row_at B.lay hi]; rfl
    have step : ∀ q, nth t.mask (stand t.mask (kd.hash k) c) q = stand t.mask (kd.hash k) (c + q) := fun q => (nth_add t.mask c _ q).symm
    have found := go_spec t B.tok.ris B.tok.dm (fun i => (es[i]?.map (·.1)).getD 0) (kd.hash k) (10 * SetTable.turns t.mask) (N - c) (stand t.mask (kd.hash k) c) (nth_dummy _ _ _ rfl) (by omega)
      (fun q hq => by rw [step]; exact nl (c + q) (by omega)) (by rw [step, Nat.add_sub_cancel' le]; exact nf)
    rw [setSearchFrom_succ]
    refine wpAny_bind (wpAny_setState_of ho hd B.fits ?_)
    dsimp only
    refine wp_if_neg (by rw [no_way B.tok]; decide) ?_
    try refine wpAny_bind (wpAny_pure ?_)
    rcases found with ⟨q, i, qN, hi, hh, fst, pr⟩ | ⟨fst, pr⟩
    · have pr1 : t.probe (fun i => (es[i]?.map (·.1)).getD 0) (kd.hash k) (from?.getD (t.probeStart (kd.hash k))) = some (.candidate (way t.mask (kd.hash k) (c + q)) i (stand t.mask (kd.hash k) (c + (q + 1)))) := by
        rw [st]
        have z : t.probe (fun i => (es[i]?.map (·.1)).getD 0) (kd.hash k) (stand t.mask (kd.hash k) c) = some (.candidate (nth t.mask (stand t.mask (kd.hash k) c) q).j i (nth t.mask (stand t.mask (kd.hash k) c) (q + 1))) := pr
        rw [z, step, step]
      rw [pr1]
      dsimp only
      rw [step] at hi
      have il : i < R.length := by
        have z1 := (List.getElem?_eq_some_iff.mp hi).1
        have z2 := B.tok.sz
        rw [List.length_map] at z2
        rw [Array.length_toList, z2] at z1
        exact z1
      obtain ⟨e, he⟩ : ∃ e, R[i]? = some e := ⟨_, List.getElem?_eq_getElem il⟩
      have em : e ∈ R := List.mem_of_getElem? he
      have live : t.slot (way t.mask (kd.hash k) (c + q)) = .live i := slot_live B.tok.ris hi
      have tail : wpAny (model P w) A (searchRest a (.ref x) (kd.hash k) true fuel es t (way t.mask (kd.hash k) (c + q)) i (stand t.mask (kd.hash k) (c + (q + 1)))) Q E s := by
        unfold searchRest
        rw [row_at B.lay he]
        dsimp only
        refine wpAny_bind (wpAny_holding (kd.eqBool rm (B.mem e em) hx (wpAny_bind (wpAny_setState_of ho hd B.fits ?_))))
        dsimp only
        rcases Classical.em (e.2 = k) with ek | ek
        · exact wp_if_pos (by rw [decide_eq_true ek]; rfl) (wpAny_pure (yes (List.mem_map.mpr ⟨e, em, ek⟩)))
        · refine wp_if_neg (by rw [decide_eq_false ek]; decide) ?_
          try refine wpAny_bind (wpAny_pure ?_)
          rw [sameMem]
          dsimp only
          simp only [if_true, live, row_at B.lay he]
          refine wpAny_bind (wpAny_isSame_ref_self (wpAny_bind (wpAny_pure ?_)))
          simp only [if_true]
          refine wp_if_neg (by rw [decide_eq_false ek]; decide) (ih (c + (q + 1)) _ rfl (by omega) (by omega) fun i' e' h1 h2 => ?_)
          obtain ⟨c', l1, l2, l3⟩ := ahead i' e' h1 h2
          refine ⟨c', ?_, l2, l3⟩
          rcases Nat.lt_trichotomy c' (c + q) with z | z | z
          · refine absurd ((hash_at i' e' h1).trans (congrArg kd.hash h2)) (fst (c' - c) i' (by omega) ?_)
            rw [step, Nat.add_sub_cancel' l1]
            exact l3
          · rw [z] at l3
            have z2 := slot_live B.tok.ris l3
            rw [live] at z2
            injection z2 with z2
            rw [← z2, he] at h1
            cases h1
            exact absurd h2 ek
          · omega
      rcases Bool.eq_false_or_eq_true t.led with hl | hl
      · refine wp_if_neg (by rw [hl]; decide) ?_
        try refine wpAny_bind (wpAny_pure ?_)
        exact tail
      · refine wp_if_pos (by rw [hl]; rfl) (wpAny_bind (quiet_pair ft hx (fun y hy => ?_) ?_))
        · obtain ⟨r, hr, rfl⟩ := List.mem_map.mp hy
          have hr1 : r ∈ es.toList := by
            have z : r ∈ es ∧ r.1 = kd.hash k := by simpa using hr
            simpa using z.1
          rw [B.lay] at hr1
          obtain ⟨e', he', rfl⟩ := List.mem_map.mp hr1
          exact ⟨e'.2, e'.1, rfl, B.mem e' he'⟩
        · refine wp_if_neg (by decide) ?_
          try refine wpAny_bind (wpAny_pure ?_)
          exact tail
    · have pr1 : t.probe (fun i => (es[i]?.map (·.1)).getD 0) (kd.hash k) (from?.getD (t.probeStart (kd.hash k))) = some (.empty (way t.mask (kd.hash k) N) none) := by
        rw [st]
        have z : t.probe (fun i => (es[i]?.map (·.1)).getD 0) (kd.hash k) (stand t.mask (kd.hash k) c) = some (.empty (nth t.mask (stand t.mask (kd.hash k) c) (N - c)).j none) := pr
        rw [z, step, Nat.add_sub_cancel' le]
      rw [pr1]
      dsimp only
      refine wpAny_pure (no fun hm => ?_)
      obtain ⟨e, em, ek⟩ := List.mem_map.mp hm
      obtain ⟨i, il, ei⟩ := List.getElem_of_mem em
      have he : R[i]? = some e := by rw [List.getElem?_eq_getElem il, ei]
      obtain ⟨c', l1, l2, l3⟩ := ahead i e he ek
      refine fst (c' - c) i (by omega) ?_ ((hash_at i e he).trans (congrArg kd.hash ek))
      rw [step, Nat.add_sub_cancel' l1]
      exact l3
theorem seek0 (ft : Fit kd) (B : Bag kd s.heap a R es ep t) {x : Addr} {k : κ} (hx : kd.is s.heap k x) (rm : kd.room A) {Q : SetFound → Shared → Prop}
    (yes : k ∈ R.map (·.2) → Q (.there none) s)
    (no : ∀ N, k ∉ R.map (·.2) → way t.mask (kd.hash k) N ∉ t.place.toList → (∀ c, c < N → way t.mask (kd.hash k) c ∈ t.place.toList) → Q (.free (way t.mask (kd.hash k) N) false) s) :
    wpAny (model P w) A (setSearch a (.ref x) (kd.hash k) true) Q E s := by
  have g := B.gap
  obtain ⟨N, nb, nf, nl⟩ := B.tok.first (by rw [List.length_map]; omega) (kd.hash k)
  have small : N < 100000 := by
    refine Nat.lt_of_lt_of_le nb ?_
    unfold SetTable.turns
    rcases B.tok.mok with e | e | e <;> omega
  unfold setSearch
  refine seek ft B hx rm nb nf nl yes (fun n => no N n nf nl) 100000 0 none rfl (Nat.zero_le _) (by omega) fun i e he ek => ?_
  have g1 : (R.map fun e => kd.hash e.2)[i]? = some (kd.hash k) := by rw [List.getElem?_map, he, ← ek]; rfl
  have il : i < t.place.toList.length := by
    have z2 := B.tok.sz
    rw [List.length_map] at z2
    rw [Array.length_toList, z2]
    exact (List.getElem?_eq_some_iff.mp he).1
  obtain ⟨c, hc, e2⟩ := B.tok.before nf g1 (List.getElem?_eq_getElem il)
  exact ⟨c, Nat.zero_le _, hc, by rw [e2]; exact List.getElem?_eq_getElem il⟩
end
end SN
set_option Elab.async false
set_option linter.all false
set_option maxRecDepth 100000
set_option maxHeartbeats 4000000
namespace SN
open PySem PySem.Spec PyProof.Rows L2
section
variable {P : Program} {w : World} {κ : Type} [DecidableEq κ]
variable {kd : HeapKind P w κ} {A : Around} {E : Value → Shared → Prop} {s : Shared} {a : Addr} {R : List (Addr × κ)} {es : Array (Int × Value)} {ep : Nat} {t : SetTable}
/-- what is a tuple stays one while the set alone is written -/
theorem Fit.but (ft : Fit kd) {h h' : Heap} {o : Obj} {k : κ} {b : Addr} (ho : h.get? a = some o) (hd : o.data = .set es ep t) (sb : Heap.SameBut a h h') (x : kd.is h k b) : kd.is h' k b := by
  refine ft.hold (fun c u vs m hc hu => ?_) x
  refine (sb.2 c fun z => ?_).trans hc
  rw [z, ho] at hc
  cases hc
  rw [hd] at hu
  cases hu
/-- rows picked by their places -/
theorem pick_rows {es : Array (Int × Value)} (lay : es.toList = cells kd R) : ∀ l : List Nat, (∀ i ∈ l, i < R.length) →
    l.filterMap (fun i => es[i]?) = cells kd (l.filterMap fun i => R[i]?) ∧ ((l.filterMap fun i => R[i]?).map fun e => kd.hash e.2) = l.map fun i => (es.map (·.1)).getD i 0
  | [], _ => ⟨rfl, rfl⟩
  | i :: l, h => by
    obtain ⟨g1, g2⟩ := pick_rows lay l fun j hj => h j (List.mem_cons_of_mem _ hj)
    obtain ⟨e, he⟩ : ∃ e, R[i]? = some e := ⟨_, List.getElem?_eq_getElem (h i List.mem_cons_self)⟩
    have z := row_at lay he
    rw [List.filterMap_cons_some (f := fun i => es[i]?) z, List.filterMap_cons_some (f := fun i => R[i]?) he, g1]
    refine ⟨rfl, ?_⟩
    have z1 : (es.map (·.1)).getD i 0 = kd.hash e.2 := by
      rw [Array.getD_eq_getD_getElem?, Array.getElem?_map, z]
      rfl
    rw [List.map_cons, List.map_cons, g2, z1]
theorem all_picked {α : Type} : ∀ l : List α, (List.range l.length).filterMap (fun i => l[i]?) = l
  | [] => rfl
  | x :: l => by
    rw [List.length_cons, List.range_succ_eq_map, List.filterMap_cons_some (f := fun i => (x :: l)[i]?) (List.getElem?_cons_zero), List.filterMap_map]
    exact congrArg (x :: ·) (all_picked l)
/-- the table laid anew -/
theorem relay (ft : Fit kd) {o : Obj} (ho : s.heap.get? a = some o) (hex : o.ExactSet) (hd : o.data = .set es ep t) (lay : es.toList = cells kd R) (sz : t.place.size = R.length) (dm : t.dummies = #[]) (le : R.length ≤ t.mask)
    (dis : (R.map (·.2)).Nodup) (mem : ∀ e ∈ R, kd.is s.heap e.2 e.1) (ord : w.params.followText "set-order" = true ∨ t.led = true) {wanted M : Nat} (hM : MaskOk M) (hw : SetTable.sizeAbove wanted = M + 1) (gap : R.length * 5 < M * 3)
    {Q : Unit → Shared → Prop} (q : ∀ h' R' es' ep' t', Heap.SameBut a s.heap h' → Bag kd h' a R' es' ep' t' → R'.Perm R → Q () { s with heap := h' }) : wpAny (model P w) A (setRelay a wanted) Q E s := by
  have z0 := lay_size lay
  have fit : t.fits es.size = true := fits_of (by rw [sz, z0]) dm (by rw [z0]; exact le)
  have M128 : M + 1 ≤ 128 := by rcases hM with e | e | e <;> omega
  obtain ⟨t', order, e1, pm, T, e2, e3, _, _⟩ := relaid_ok t (hs := es.map (·.1)) (wanted := wanted) (by rw [hw]; rfl) hM (by rw [Array.size_map, z0]; omega)
  rw [Array.size_map, z0] at pm
  obtain ⟨g1, g2⟩ := pick_rows lay order.toList fun i hi => List.mem_range.mp (pm.mem_iff.mp hi)
  have pm2 : (order.toList.filterMap fun i => R[i]?).Perm R := by
    have z := pm.filterMap (f := fun i => R[i]?)
    rw [all_picked] at z
    exact z
  generalize (order.toList.filterMap fun i => R[i]?) = R' at g1 g2 pm2
  have lay' : (order.filterMap (es[·]?)).toList = cells kd R' := by rw [Array.toList_filterMap]; exact g1
  have z1 : (order.filterMap (es[·]?)).size = es.size := by rw [lay_size lay', pm2.length_eq, z0]
  rw [← g2] at T
  rw [setRelay_eq]
  refine wpAny_bind (wpAny_setState_of ho hd fit ?_)
  dsimp only
  refine wp_if_neg (by rw [hw, sizeLine_eq]; omega) ?_
  try refine wpAny_bind (wpAny_pure ?_)
  rw [e1]
  dsimp only
  refine wpAny_bind (wp_if_neg (by rw [z1]; simp) ?_)
  try refine wpAny_bind (wpAny_pure ?_)
  refine wpAny_pure ?_
  dsimp only
  have sb : Heap.SameBut a s.heap (s.heap.update a (Obj.putSet (order.filterMap (es[·]?)) t')) := Heap.SameBut.update ..
  refine wpAny_storeSet_of ho hd (q _ R' (order.filterMap (es[·]?)) (ep + 1) t' sb ?_ pm2) (by rw [z1, z0, sizeLine_eq]; omega)
  exact { obj := ⟨_, store_at ho hd, ⟨hex.1, hex.2.1, hex.2.2⟩, rfl⟩, lay := lay', tok := T, dis := (pm2.map (·.2)).nodup_iff.mpr dis, mem := fun e he => ft.but ho hd sb (mem e (pm2.mem_iff.mp he)), ord := by rw [e3]; exact ord, gap := by rw [pm2.length_eq, e2]; exact gap }
theorem ins_perm {α : Type} (l : List α) (p : Nat) (x : α) : (l.take p ++ x :: l.drop p).Perm (x :: l) := by
  have z := List.perm_middle (a := x) (l₁ := l.take p) (l₂ := l.drop p)
  rwa [List.take_append_drop] at z
/-- one more -/
theorem put1 (ft : Fit kd) (B : Bag kd s.heap a R es ep t) {x : Addr} {k : κ} (hx : kd.is s.heap k x) (rm : kd.room A) (few : R.length + 1 ≤ 76) {Q : Bool → Shared → Prop}
    (q : ∀ b h' R' es' ep' t', Heap.SameBut a s.heap h' → Bag kd h' a R' es' ep' t' → (k ∈ R.map (·.2) → R' = R) → (k ∉ R.map (·.2) → R'.Perm ((x, k) :: R)) → Q b { s with heap := h' }) :
    wpAny (model P w) A (setAddHashed a (.ref x) (kd.hash k)) Q E s := by
  obtain ⟨o, ho, hex, hd⟩ := B.obj
  have gap := B.gap
  unfold setAddHashed
  rw [show (100000 : Nat) = 99999 + 1 from rfl, setAddHashedIn_succ]
  refine wpAny_holding (wpAny_bind (wpAny_setState_of ho hd B.fits ?_))
  dsimp only
  refine wp_if_neg (by simp [byScan, Value.scannable]) ?_
  try refine wpAny_bind (wpAny_pure ?_)
  refine wpAny_bind (seek0 ft B hx rm (fun hm => ?_) fun N hm nf nl => ?_)
  · dsimp only
    exact wpAny_pure (q false _ R es ep t (Heap.SameBut.refl a s.heap) B (fun _ => rfl) fun z => absurd hm z)
  · dsimp only
    refine wpAny_bind (wpAny_setState_of ho hd B.fits ?_)
    dsimp only
    obtain ⟨c1, c2, c3, c4, c5, c6, c7, c8, c9⟩ := B.tok.put nf nl
    generalize t.put (way t.mask (kd.hash k) N) = made at c1 c3 c4 c5 c6 c7 c8 c9 ⊢
    obtain ⟨t1, p⟩ := made
    dsimp only at c1 c3 c4 c5 c6 c7 c8 c9 ⊢
    subst c1
    generalize SetTable.below t.place (way t.mask (kd.hash k) N) = p at c2 c3 ⊢
    have pm := ins_perm R p (x, k)
    have lay1 : (SetTable.insertAt es p (kd.hash k, Value.ref x)).toList = cells kd (R.take p ++ (x, k) :: R.drop p) := by
      unfold cells
      rw [SetTable.toList_insertAt, B.lay, List.map_append, List.map_cons, List.map_take, List.map_drop]
      rfl
    have tok1 : TabOk t1 ((R.take p ++ (x, k) :: R.drop p).map fun e => kd.hash e.2) := by
      rw [List.map_append, List.map_cons, List.map_take, List.map_drop]
      exact c3
    have dis1 : ((R.take p ++ (x, k) :: R.drop p).map (·.2)).Nodup := (pm.map (·.2)).nodup_iff.mpr (List.nodup_cons.mpr ⟨hm, B.dis⟩)
    generalize R.take p ++ (x, k) :: R.drop p = R1 at pm lay1 tok1 dis1
    have len1 : R1.length = R.length + 1 := pm.length_eq
    -- whether the hash is by value or not: the table differs in a mark alone
    have any : ∀ t2 : SetTable, t2.place = t1.place → t2.dummies = t1.dummies → t2.mask = t1.mask → t2.led = t1.led → t2.tooFull = t1.tooFull →
        wpAny (model P w) A (do
          storeSet a (SetTable.insertAt es p (kd.hash k, Value.ref x)) t2
          if !false && t2.tooFull then setRelay a (SetTable.grown (es.size + 1))
          return true) Q E s := by
      intro t2 d1 d2 d3 d4 d5
      have tok2 : TabOk t2 (R1.map fun e => kd.hash e.2) := ⟨by rw [d1]; exact tok1.ris, by rw [d2]; exact tok1.dm, by rw [d1]; exact tok1.sz, by rw [d3]; exact tok1.mok, by rw [d1, d3]; exact tok1.bd, by rw [d1, d3]; exact tok1.reach⟩
      have ord2 : w.params.followText "set-order" = true ∨ t2.led = true := by rw [d4, c5]; exact B.ord
      have sz1 := lay_size lay1
      generalize SetTable.insertAt es p (kd.hash k, Value.ref x) = es1 at lay1 sz1 ⊢
      refine wpAny_bind (wpAny_storeSet_of ho hd ?_ (by rw [sz1, len1, sizeLine_eq]; omega))
      have sb : Heap.SameBut a s.heap (s.heap.update a (Obj.putSet es1 t2)) := Heap.SameBut.update ..
      have ho1 := store_at (es' := es1) (t' := t2) ho hd
      generalize s.heap.update a (Obj.putSet es1 t2) = h1 at sb ho1 ⊢
      have mem1 : ∀ e ∈ R1, kd.is h1 e.2 e.1 := fun e he => by
        rcases List.mem_cons.mp (pm.mem_iff.mp he) with z | z
        · rw [z]; exact ft.but ho hd sb hx
        · exact ft.but ho hd sb (B.mem e z)
      have full : t2.tooFull = decide (t1.mask * 3 ≤ (R.length + 1) * 5) := by
        rw [d5]
        unfold SetTable.tooFull
        rw [c9, List.length_map]
      rw [B.size]
      rcases Nat.lt_or_ge ((R.length + 1) * 5) (t1.mask * 3) with lt | ge
      · rw [full, decide_eq_false (by omega)]
        refine wpAny_pure (q true h1 R1 es1 (ep + 1) t2 sb ?_ (fun z => absurd z hm) fun _ => pm)
        exact { obj := ⟨_, ho1, ⟨hex.1, hex.2.1, hex.2.2⟩, rfl⟩, lay := lay1, tok := tok2, dis := dis1, mem := mem1, ord := ord2, gap := by rw [len1, d3]; exact lt }
      · rw [full, decide_eq_true ge]
        have go : ∀ M, MaskOk M → SetTable.sizeAbove (SetTable.grown (R.length + 1)) = M + 1 → (R.length + 1) * 5 < M * 3 →
            wpAny (model P w) A (setRelay a (SetTable.grown (R.length + 1))) (fun _ s' => wpAny (model P w) A (pure true) Q E s') E { s with heap := h1 } := fun M hM hw hg => by
          refine relay (s := { s with heap := h1 }) ft ho1 ⟨hex.1, hex.2.1, hex.2.2⟩ rfl lay1 ?_ tok2.dm ?_ dis1 mem1 ord2 hM hw (by rw [len1]; exact hg) fun h2 R2 es2 ep2 t3 sb2 B2 pm2 => ?_
          · have z := tok2.sz
            rw [List.length_map] at z
            exact z
          · rw [len1, d3, c4]
            omega
          · exact wpAny_pure (q true h2 R2 es2 ep2 t3 (sb.trans sb2) B2 (fun z => absurd z hm) fun _ => pm2.trans pm)
        have two : (R.length = 4) ∨ (R.length = 18) := by
          rcases B.tok.mok with e | e | e <;> rw [c4, e] at ge <;> rw [e] at gap <;> omega
        refine wpAny_bind ?_
        rcases two with e | e
        · exact go 31 (.inr (.inl rfl)) (by rw [e]; exact size_20) (by rw [e]; decide)
        · exact go 127 (.inr (.inr rfl)) (by rw [e]; exact size_76) (by rw [e]; decide)
    cases hp : t1.plain with
    | true =>
      try simp only [if_true]
      refine wpAny_bind (ft.byVal hx fun r => ?_)
      cases r with
      | true => exact any t1 rfl rfl rfl rfl rfl
      | false => exact any { t1 with plain := false } rfl rfl rfl rfl rfl
    | false =>
      try simp only [Bool.false_eq_true, if_false]
      refine wpAny_bind (wpAny_pure ?_)
      exact any t1 rfl rfl rfl rfl rfl
end
end SN
set_option Elab.async false
set_option linter.all false
set_option maxRecDepth 100000
set_option maxHeartbeats 4000000
namespace SN
open PySem PySem.Spec PyProof.Rows L2
section
variable {P : Program} {w : World} {κ : Type} [DecidableEq κ]
variable {kd : HeapKind P w κ} {A : Around} {E : Value → Shared → Prop} {s : Shared} {a : Addr} {R : List (Addr × κ)} {es : Array (Int × Value)} {ep : Nat} {t : SetTable}
theorem Bag.keep {h h' : Heap} (B : Bag kd h a R es ep t) (k : ∀ o, h.get? a = some o → h'.get? a = some o) (m : ∀ e ∈ R, kd.is h' e.2 e.1) : Bag kd h' a R es ep t := by
  obtain ⟨o, ho, r⟩ := B.obj
  exact { B with obj := ⟨o, k o ho, r⟩, mem := m }
/-- what the first n of the given ones have become -/
structure Some1 (ks : List (Addr × κ)) (n : Nat) (R : List (Addr × κ)) : Prop where
  old : ∀ e ∈ R, e ∈ ks.take n
  hit : ∀ e ∈ ks.take n, e.2 ∈ R.map (·.2)
  few : R.length ≤ n
theorem Some1.start (ks : List (Addr × κ)) : Some1 ks 0 [] := ⟨fun _ h => (by cases h), fun _ h => (by rw [List.take_zero] at h; cases h), Nat.le_refl _⟩
theorem Some1.next {ks R R' : List (Addr × κ)} {n : Nat} {e : Addr × κ} (g : Some1 ks n R) (he : ks[n]? = some e) (c1 : e.2 ∈ R.map (·.2) → R' = R) (c2 : e.2 ∉ R.map (·.2) → R'.Perm (e :: R)) : Some1 ks (n + 1) R' := by
  have tk : ks.take (n + 1) = ks.take n ++ [e] := by rw [List.take_succ, he]; rfl
  rcases Classical.em (e.2 ∈ R.map (·.2)) with c | c
  · rw [c1 c]
    refine ⟨fun y hy => by rw [tk]; exact List.mem_append_left _ (g.old y hy), fun y hy => ?_, Nat.le_succ_of_le g.few⟩
    rw [tk] at hy
    rcases List.mem_append.mp hy with z | z
    · exact g.hit y z
    · rw [List.mem_singleton.mp z]; exact c
  · have pm := c2 c
    refine ⟨fun y hy => ?_, fun y hy => ?_, by rw [pm.length_eq]; exact Nat.succ_le_succ g.few⟩
    · rw [tk]
      rcases List.mem_cons.mp (pm.mem_iff.mp hy) with z | z
      · rw [z]; exact List.mem_append_right _ List.mem_cons_self
      · exact List.mem_append_left _ (g.old y z)
    · rw [tk] at hy
      refine (pm.map (·.2)).mem_iff.mpr ?_
      rcases List.mem_append.mp hy with z | z
      · exact List.mem_cons_of_mem _ (g.hit y z)
      · rw [List.mem_singleton.mp z]; exact List.mem_cons_self
def empty0 (w : World) : Obj := { cls := .type "set", dict := none, data := .set #[] 0 (.fresh 0 0 (!w.params.followText "set-order")) }
theorem Bag.none {h : Heap} (ho : h.get? a = some (empty0 w)) : Bag kd h a [] #[] 0 (.fresh 0 0 (!w.params.followText "set-order")) where
  obj := ⟨_, ho, ⟨rfl, rfl, rfl⟩, rfl⟩
  lay := rfl
  tok := { ris := List.Pairwise.nil, dm := rfl, sz := rfl, mok := .inl rfl, bd := fun _ hx => (by cases hx), reach := fun i h j hi => (by simp at hi) }
  dis := List.nodup_nil
  mem := fun _ he => (by cases he)
  ord := by
    show _ ∨ (!w.params.followText "set-order") = true
    cases w.params.followText "set-order"
    · exact .inr rfl
    · exact .inl rfl
  gap := by show 0 * 5 < 7 * 3; decide
/-- set.update, item by item -/
theorem fill (ft : Fit kd) {I : Addr} {fp wr : List Addr} {G : Array GenState → Array GenState → Prop} {n : Nat} {Pv : Nat → Value → Prop} {St : Nat → Shared → Prop} {Z : Result → Shared → Prop}
    (W : WalksS P w A.in1 I fp wr G n Pv St) (nI : a ∉ fp) (ks : List (Addr × κ)) (len : n = ks.length) (most : ks.length ≤ 76) (val : ∀ i v, Pv i v → ∃ e, ks[i]? = some e ∧ v = .ref e.1)
    (h0 : Heap) (hks : ∀ e ∈ ks, kd.is h0 e.2 e.1) (na : h0.get? a = .none) (nw : ∀ b ∈ wr, h0.get? b = .none) (rm : kd.room A.in1)
    (fin : ∀ (s' : Shared) (R : List (Addr × κ)) (es : Array (Int × Value)) (ep : Nat) (t : SetTable), (∀ b o, h0.get? b = some o → s'.heap.get? b = some o) → Bag kd s'.heap a R es ep t → Some1 ks n R → Moved (a :: wr) G s s' → Z (.ok (.ret .none)) s') :
    ∀ (left i : Nat) (s1 : Shared), i + left = n → St i s1 → (∀ b o, h0.get? b = some o → s1.heap.get? b = some o) → (∃ R es ep t, Bag kd s1.heap a R es ep t ∧ Some1 ks i R) → Moved (a :: wr) G s s1 →
      codeAny (model P w) A (.builtin "set.update.loop" ⟨[.ref a, .ref I], []⟩) Z s1 := by
  have na2 : a ∉ wr := fun z => nI (W.sub _ z)
  have grow : ∀ b ∈ wr, b ∈ a :: wr := fun b hb => List.mem_cons_of_mem _ hb
  have carry : ∀ {s1 s2 : Shared}, Moved wr G s1 s2 → (∀ b o, h0.get? b = some o → s1.heap.get? b = some o) → ∀ b o, h0.get? b = some o → s2.heap.get? b = some o := fun m k b o e =>
    m.heap b o (fun z => by rw [nw b z] at e; cases e) (k b o e)
  have still : ∀ {s2 : Shared} {R : List (Addr × κ)} {i : Nat}, Some1 ks i R → (∀ b o, h0.get? b = some o → s2.heap.get? b = some o) → ∀ e ∈ R, kd.is s2.heap e.2 e.1 := fun g k e he =>
    ft.hold (fun c u _ _ z _ => k c u z) (hks e (List.mem_of_mem_take (g.old e he)))
  intro left
  induction left with
  | zero =>
    intro i s1 e hst k ⟨R, es, ep, t, B, g⟩ mv
    have e : i = n := e
    subst e
    refine codeAny_builtin F.entry_set_update_loop ?_
    rw [Around.under_plainId F.plain_set_update_loop _]
    show wpAny _ A.in1 (pyNext (.ref I) >>= _) _ _ s1
    refine wpAny_bind (W.done s1 _ _ hst fun s2 m => ?_)
    have k2 := carry m k
    exact wpAny_pure (fin s2 R es ep t k2 (B.keep (fun o z => m.heap a o na2 z) (still g k2)) g (Moved.trans W.gtrans mv (m.mono grow)))
  | succ left ih =>
    intro i s1 e hst k ⟨R, es, ep, t, B, g⟩ mv
    refine codeAny_builtin F.entry_set_update_loop ?_
    rw [Around.under_plainId F.plain_set_update_loop _]
    show wpAny _ A.in1 (pyNext (.ref I) >>= _) _ _ s1
    refine wpAny_bind (W.item i s1 _ _ (by omega) hst fun v s2 pv st2 m => ?_)
    obtain ⟨x, hx, rfl⟩ := val i v pv
    have k2 := carry m k
    have B2 : Bag kd s2.heap a R es ep t := B.keep (fun o z => m.heap a o na2 z) (still g k2)
    have isx : kd.is s2.heap x.2 x.1 := ft.hold (fun c u _ _ z _ => k2 c u z) (hks x (List.mem_of_getElem? hx))
    show wpAny _ A.in1 (holding [Value.ref x.1] (setAdd a (.ref x.1)) >>= _) _ _ s2
    unfold setAdd
    refine wpAny_bind (wpAny_holding (wpAny_holding (wpAny_bind (kd.pyHash rm isx ?_))))
    refine put1 (s := { s2 with toks := s2.toks + kd.draws x.2 }) ft B2 isx rm (by have := g.few; omega) fun b h3 R3 es3 ep3 t3 sb B3 c1 c2 => ?_
    have k3 : ∀ b o, h0.get? b = some o → h3.get? b = some o := fun b o z => (sb.2 b (fun y => by rw [y, na] at z; cases z)).trans (k2 b o z)
    refine wpAny_pure ⟨plainId_quiet F.plain_set_update_loop _, ih (i + 1) _ (by omega) (W.frame _ s2 _ _ st2 (Nat.le_add_right _ _) fun b hb o z => ?_) k3 ⟨R3, es3, ep3, t3, B3, g.next hx c1 c2⟩ ?_⟩
    · exact (sb.2 b fun y => nI (y ▸ hb)).trans z
    · refine Moved.trans W.gtrans mv ((m.mono grow).then_heap (Nat.le_add_right _ _) fun b o hb z => ?_)
      exact (sb.2 b fun y => hb (by rw [y]; exact List.mem_cons_self)).trans z
end
end SN
set_option Elab.async false
set_option linter.all false
set_option maxRecDepth 100000
set_option maxHeartbeats 8000000
namespace SN
open PySem PySem.Spec PyProof.Rows L2
/-! ### set(xs) of a list or tuple -/
structure Src (P : Program) (w : World) (T : String) (l : Addr) (o io : Obj) (items : Array Value) : Prop where
  cls : o.cls = .type T
  seq : ∃ n, o.data = .seq items n
  sm : io.isFreed = false
  s1 : (isSubtype (.type T) (.type "set") : Sem Bool) = pure false
  s2 : (isSubtype (.type T) (.type "frozenset") : Sem Bool) = pure false
  ne : (Value.type T == Value.type "dict") = false
  it : ∀ {A : Around} {E : Value → Shared → Prop} {s : Shared} {Q : Value → Shared → Prop}, s.heap.get? l = some o → Q (.ref s.heap.objs.size) { s with heap := s.heap.push io } → wpAny (model P w) A (pyIter (.ref l)) Q E s
  wk : ∀ (A : Around) (I : Addr), A.handled = none → l ≠ I → ∃ St : Nat → Heap → Prop, Walks P w A I [I, l] [I] items.size (fun i v => items[i]? = some v) St ∧ ∀ h : Heap, h.get? I = some io → h.get? l = some o → St 0 h
theorem src_list {P : Program} {w : World} {l : Addr} {o : Obj} {items : Array Value} (hc : o.cls = .type "list") (hs : ∃ n, o.data = .seq items n) :
    Src P w "list" l o { cls := .type "list_iterator", data := .fields #[.ref l, .int 0 0] } items where
  cls := hc
  seq := hs
  sm := rfl
  s1 := F.sub_list_set
  s2 := F.sub_list_frozenset
  ne := by decide
  it := fun ho q => wpAny_pyIter_list ⟨o, ho, hc, hs⟩ q
  wk := fun A I hh ne => ⟨_, Walks.list hh I l ne items, fun h h1 h2 => ⟨⟨_, h1, rfl, rfl⟩, ⟨o, h2, hc, hs⟩⟩⟩
theorem src_tup {P : Program} {w : World} {l : Addr} {o : Obj} {items : Array Value} (hc : o.cls = .type "tuple") (hs : ∃ n, o.data = .seq items n) :
    Src P w "tuple" l o { cls := .type "tuple_iterator", data := .fields #[.ref l, .int 0 0] } items where
  cls := hc
  seq := hs
  sm := rfl
  s1 := F.sub_tuple_set
  s2 := F.sub_tuple_frozenset
  ne := by decide
  it := fun ho q => wpAny_pyIter_tuple ⟨o, ho, hc, hs⟩ q
  wk := fun A I hh ne => ⟨_, Walks.tuple hh I l ne items, fun h h1 h2 => ⟨⟨_, h1, rfl, rfl⟩, ⟨o, h2, hc, hs⟩⟩⟩
section
variable {P : Program} {w : World} {κ : Type} [DecidableEq κ]
variable {kd : HeapKind P w κ} {A : Around} {E : Value → Shared → Prop} {s : Shared}
/-- the set's filling, from __init__ on -/
theorem init_fill (ft : Fit kd) {T : String} {l S : Addr} {o io : Obj} {items : Array Value} {ks : List (Addr × κ)} {Q : PySem.Fin → Shared → Prop} (src : Src P w T l o io items) (ho : s.heap.get? l = some o) (hS : s.heap.get? S = some (empty0 w)) (ne : l ≠ S)
    (hh : A.handled = none) (hit : items.toList = ks.map fun e => Value.ref e.1) (h0 : Heap) (hk0 : ∀ b u, h0.get? b = some u → s.heap.get? b = some u) (hS0 : h0.get? S = none) (hI0 : h0.get? s.heap.objs.size = none)
    (hks : ∀ e ∈ ks, kd.is h0 e.2 e.1) (most : ks.length ≤ 76) (rm : kd.room A.in1)
    (q : ∀ (h' : Heap) (tk : Nat) R es ep t, Bag kd h' S R es ep t → Some1 ks ks.length R → (∀ b u, h0.get? b = some u → h'.get? b = some u) → Q (.done (.ret .none)) { s with heap := h', toks := tk }) :
    wpAny (model P w) A (Builtin.«set.__init__» ⟨[.ref S, .ref l], []⟩) Q E s := by
  have hsz : items.size = ks.length := by
    have z := congrArg List.length hit
    rw [Array.length_toList, List.length_map] at z
    exact z
  obtain ⟨cl, dc, dt, sl⟩ := o
  have hc : cl = .type T := src.cls
  obtain ⟨n, hd⟩ := src.seq
  have hd : dt = .seq items n := hd
  subst hc hd
  have f1 := src.s1
  have f2 := src.s2
  have f3 := src.ne
  have f4 : s.heap.get? S = some { cls := .type "set", dict := none, data := .set #[] 0 (.fresh 0 0 (!w.params.followText "set-order")) } := hS
  have f5 : s.TypeIs (.ref S) "set" := ⟨_, f4, rfl⟩
  have f6 : s.TypeIs (.ref l) T := ⟨_, ho, rfl⟩
  unfold Builtin.«set.__init__» noKeywords Builtin.Frozenset.updateFrom
  generalize hPI : pyIter = PI
  wp_walk
  subst hPI
  refine src.it ho ?_
  refine wpAny_bind (wpAny_runValue ?_)
  have lI : l ≠ s.heap.objs.size := Nat.ne_of_lt (Heap.lt_size ho)
  have SI : S ≠ s.heap.objs.size := Nat.ne_of_lt (Heap.lt_size hS)
  obtain ⟨St, W, st0⟩ := src.wk A.in1 s.heap.objs.size (by simpa using hh) lI
  have old : ∀ b u, s.heap.get? b = some u → (s.heap.push io).get? b = some u := fun b u z => Heap.get?_push_of_some _ z
  have newI : (s.heap.push io).get? s.heap.objs.size = some io := Heap.get?_push_size _ src.sm
  refine fill (s := { s with heap := s.heap.push io }) (a := S) ft W.toS (by simp only [List.mem_cons, List.not_mem_nil, or_false, not_or]; exact ⟨SI, Ne.symm ne⟩) ks hsz most (fun i v hv => ?_) h0 hks hS0 (fun b hb => by rw [List.mem_singleton.mp hb]; exact hI0) rm
    (fun s' R es ep t k B g mv => ?_) items.size 0 _ (Nat.zero_add _) (st0 _ newI (old _ _ ho)) (fun b u z => old _ _ (hk0 b u z)) ⟨[], #[], 0, _, Bag.none (old _ _ hS), Some1.start ks⟩ (Moved.refl fun _ => rfl)
  · have z : items.toList[i]? = some v := by rw [Array.getElem?_toList]; exact hv
    rw [hit, List.getElem?_map] at z
    cases y : ks[i]? with
    | none => rw [y] at z; cases z
    | some e => rw [y] at z; exact ⟨e, rfl, (Option.some.inj z).symm⟩
  · obtain ⟨h', g2, d2, tk, os2⟩ := s'
    obtain rfl : g2 = s.gens := mv.gens
    obtain rfl : d2 = s.drawn := mv.drawn
    obtain rfl : os2 = s.os := mv.os
    rw [hsz] at g
    exact wpAny_pure (wpAny_pure (q h' tk R es ep t B g k))
/-- set(xs) -/
theorem set_call (ft : Fit kd) {T : String} {l : Addr} {o io : Obj} {items : Array Value} {ks : List (Addr × κ)} {Q : Value → Shared → Prop} (src : Src P w T l o io items) (ho : s.heap.get? l = some o)
    (hh : A.handled = none) (hit : items.toList = ks.map fun e => Value.ref e.1) (hks : ∀ e ∈ ks, kd.is s.heap e.2 e.1) (most : ks.length ≤ 76) (rm : ∀ B : Around, B.units ≤ A.units + 4 → kd.room B)
    (q : ∀ (h' : Heap) (tk : Nat) R es ep t, Bag kd h' s.heap.objs.size R es ep t → Some1 ks ks.length R → (∀ b u, s.heap.get? b = some u → h'.get? b = some u) → Q (.ref s.heap.objs.size) { s with heap := h', toks := tk }) :
    wpAny (model P w) A (call (.type "set") [.ref l]) Q E s := by
  obtain ⟨c, tl, hmro⟩ := F.called_set.mro
  have k1 := F.called_set.made
  have k2 := F.called_set.sub
  have k3 := F.called_set.notType
  have k4 := F.called_set.canCreate
  have k5 := F.typeCall_set_1 (.ref l)
  have fresh : ∀ b, s.heap.objs.size ≤ b → s.heap.get? b = none := fun b hb => by
    cases z : s.heap.get? b with
    | none => rfl
    | some u => exact absurd (Heap.lt_size z) (Nat.not_lt.mpr hb)
  refine wpAny_call (codeAny_of_tree ?_)
  show wpAny _ _ (callAny (.type "set") _) _ _ _
  refine wpAny_pure ⟨Code.quiet_builtin _ (by decide +kernel), codeAny_builtin F.entry_type_call ?_⟩
  rw [Around.under_plain (weight_type_call_type "set" [.ref l] []) rfl]
  repeat (any_goals (first | assumption | wp_step))
  refine codeAny_mono (code_set_led1 (.ref l) (E := E) (Q₁ := fun v z => v = .ref s.heap.objs.size ∧ z = { s with heap := s.heap.push (empty0 w) }) ⟨rfl, rfl⟩) fun r z hr => ?_
  rcases r with e | fl
  · exact hr
  rcases fl with _ | v | _ | _ <;> try exact hr.elim
  obtain ⟨rfl, rfl⟩ := hr
  have hS : (s.heap.push (empty0 w)).get? s.heap.objs.size = some (empty0 w) := Heap.get?_push_size _ rfl
  have hT : Shared.TypeIs { s with heap := s.heap.push (empty0 w) } (.ref s.heap.objs.size) "set" := ⟨_, hS, rfl⟩
  have k6 := F.called_set.init.lookup
  have k7 := F.called_set.init.bind (.ref s.heap.objs.size)
  repeat (any_goals (first | assumption | wp_step))
  refine codeAny_mono (codeAny_call_builtin (R := wants (fun r z => r = .none ∧ ∃ h' tk R es ep t, z = { s with heap := h', toks := tk } ∧ Bag kd h' s.heap.objs.size R es ep t ∧ Some1 ks ks.length R ∧ ∀ b u, s.heap.get? b = some u → h'.get? b = some u) E)
    F.called_set.init.plain F.entry_set_init (check_set_init_1 hT (init_fill (s := { s with heap := s.heap.push (empty0 w) }) ft src (Heap.get?_push_of_some _ ho) hS (Nat.ne_of_lt (Heap.lt_size ho)) (by simp [hh]) hit s.heap (fun b u z => Heap.get?_push_of_some _ z)
      (fresh _ (Nat.le_refl _)) (fresh _ (by rw [Heap.size_push]; exact Nat.le_succ _)) hks most (rm _ (by simp only [Around.in1_units]; omega)) fun h' tk R es ep t B g k => ⟨rfl, h', tk, R, es, ep, t, rfl, B, g, k⟩))) fun r z hr => ?_
  rcases r with e | fl
  · exact hr
  rcases fl with _ | v | _ | _ <;> try exact hr.elim
  obtain ⟨rfl, h', tk, R, es, ep, t, rfl, B, g, k⟩ := hr
  repeat (any_goals (first | assumption | wp_step))
  exact q _ _ _ _ _ _ B g k
end
end SN
set_option Elab.async false
set_option linter.all false
set_option maxRecDepth 100000
set_option maxHeartbeats 4000000
namespace SN
open PySem PySem.Spec PyProof.Rows L2
open PySem.W (EachIs AllAlike Sortable dataLe)
/-! ### a key read as data -/
mutual
theorem nested_reads {h : Heap} : ∀ (k : NestedKey) (v : Value) (as : List Addr), Reads h v k.data as → as = [] ∧ NestedIs h k v
  | .none, _, _, r => by cases r; exact ⟨rfl, .none⟩
  | .num i, _, _, r => by cases r; exact ⟨rfl, .int _ _⟩
  | .text x, _, _, r => by cases r; exact ⟨rfl, .text _ _⟩
  | .tup ks, _, _, r => by
    cases r with
    | tuple h1 h2 h3 h4 =>
      obtain ⟨e, n⟩ := nested_readsAll ks _ _ h4
      exact ⟨e, .tup h1 h2 h3 n⟩
theorem nested_readsAll {h : Heap} : ∀ (ks : List NestedKey) (vs : List Value) (as : List Addr), ReadsAll h vs (NestedKey.datas ks) as → as = [] ∧ NestedAll h ks vs
  | [], _, _, r => by cases r; exact ⟨rfl, .nil⟩
  | k :: ks, _, _, r => by
    cases r with
    | cons r1 r2 =>
      obtain ⟨e1, n1⟩ := nested_reads k _ _ r1
      obtain ⟨e2, n2⟩ := nested_readsAll ks _ _ r2
      exact ⟨by rw [e1, e2]; rfl, .cons n1 n2⟩
end
theorem perm_lift {α β : Type} (f : β → α) : ∀ {l1 l2 : List α}, l1.Perm l2 → ∀ R : List β, l2 = R.map f → ∃ R1 : List β, R1.Perm R ∧ l1 = R1.map f := by
  intro l1 l2 pm
  induction pm with
  | nil => intro R e; exact ⟨R, .refl _, e⟩
  | cons x _ ih =>
    intro R e
    cases R with
    | nil => cases e
    | cons r R =>
      rw [List.map_cons] at e
      injection e with e1 e2
      obtain ⟨R1, p1, z⟩ := ih R e2
      exact ⟨r :: R1, p1.cons r, by rw [List.map_cons, ← z, e1]⟩
  | swap x y l =>
    intro R e
    match R, e with
    | [], e => cases e
    | [r], e => cases e
    | r :: r' :: R, e =>
      rw [List.map_cons, List.map_cons] at e
      injection e with e1 e2
      injection e2 with e2 e3
      exact ⟨r' :: r :: R, .swap _ _ _, by rw [List.map_cons, List.map_cons, e1, e2, e3]⟩
  | trans _ _ ih1 ih2 =>
    intro R e
    obtain ⟨R1, p1, z1⟩ := ih2 R e
    obtain ⟨R2, p2, z2⟩ := ih1 R1 z1
    exact ⟨R2, p2.trans p1, z2⟩
theorem each_self {α β : Type} {f : β → α} {Z : α → β → Prop} : ∀ {R : List β}, (∀ b ∈ R, Z (f b) b) → EachIs Z (R.map f) R
  | [], _ => .nil
  | b :: R, h => .cons (h b List.mem_cons_self) (each_self fun c hc => h c (List.mem_cons_of_mem _ hc))
theorem each_eq {α β : Type} {f : β → α} : ∀ {vs : List α} {R : List β}, EachIs (fun v b => v = f b) vs R → vs = R.map f
  | _, _, .nil => rfl
  | _, _, .cons e t => by rw [e, each_eq t]; rfl
abbrev NK (P : Program) (w : World) : HeapKind P w NestedKey := nestedKind P w
abbrev keyLe : Addr × NestedKey → Addr × NestedKey → Bool := dataLe false fun e : Addr × NestedKey => e.2.data
section
variable {P : Program} {w : World} {A : Around} {E : Value → Shared → Prop} {s : Shared} {a : Addr} {R : List (Addr × NestedKey)} {es : Array (Int × Value)} {ep : Nat} {t : SetTable}
/-- sorted(the set) -/
theorem sorted_bag (B : Bag (NK P w) s.heap a R es ep t) (hh : A.handled = none) (hu : A.units + 64 < cLine) (rd : ∀ e ∈ R, ∃ as, Reads s.heap (.ref e.1) e.2.data as) (deep : ∀ e ∈ R, e.2.data.depth ≤ 60)
    (al : ∀ R1 : List (Addr × NestedKey), R1.Perm R → AllAlike (R1.map fun e => e.2.data) ∧ Sortable (R1.map fun e => e.2.data)) {Q : Value → Shared → Prop}
    (q : ∀ (s' : Shared) (p : Addr) (R1 : List (Addr × NestedKey)) (n : Nat), (∀ b o, s.heap.get? b = some o → s'.heap.get? b = some o) → s'.gens = s.gens → s'.os = s.os → s.heap.objs.size ≤ p → R1.Perm R →
      s'.heap.get? p = some (seqObj "list" ((R1.mergeSort keyLe).map fun e => Value.ref e.1).toArray n) → Q (.ref p) s') : wpAny (model P w) A (call (.builtin "sorted") [.ref a]) Q E s := by
  obtain ⟨o, ho, hex, hd⟩ := B.obj
  have few := B.few
  have sz := B.size
  refine Calls.call_function_entry kind_sorted plain_sorted entry_sorted (args_sorted1 _) ?_
  unfold Builtin.«sorted»
  refine wpAny_bind (m := checkCount "sorted" 1 1 _) (wpAny_pure (wpAny_bind (collect_set (A := A.in1) hh ⟨o, ho, hex.1, hd⟩ B.fits (by unfold scanBound; omega) B.tok.ris B.ord fun s1 vs k1 z1 g1 o1 pm => ?_)))
  have e1 : es.toList.map (·.2) = R.map fun e => Value.ref e.1 := by
    rw [B.lay]
    unfold cells
    rw [List.map_map]
    rfl
  rw [e1] at pm
  obtain ⟨R1, pR, rfl⟩ := perm_lift (fun e : Addr × NestedKey => Value.ref e.1) pm R rfl
  obtain ⟨a1, a2⟩ := al R1 pR
  have lenR : R1.length ≤ 76 := by rw [pR.length_eq]; exact few
  refine wpAny_bind (wpAny_newList ?_ (by rw [List.length_map, sizeLine_eq]; omega))
  have hL : (s1.heap.push (seqObj "list" (R1.map fun e => Value.ref e.1).toArray 0)).get? s1.heap.objs.size = some (seqObj "list" (R1.map fun e => Value.ref e.1).toArray 0) := Heap.get?_push_size _ rfl
  have rd1 : ∀ e ∈ R1, ∃ as, Reads (s1.heap.push (seqObj "list" (R1.map fun e => Value.ref e.1).toArray 0)) (.ref e.1) e.2.data as ∧ s1.heap.objs.size ∉ as := fun e he => by
    obtain ⟨as, r⟩ := rd e (pR.mem_iff.mp he)
    have r2 : Reads (s1.heap.push (seqObj "list" (R1.map fun e => Value.ref e.1).toArray 0)) (.ref e.1) e.2.data as := PyProof.Rows.Reads.keeps (fun b o z => Heap.get?_push_of_some _ (k1 b o z)) r
    obtain ⟨rfl, _⟩ := nested_reads e.2 _ _ r2
    exact ⟨_, r2, List.not_mem_nil⟩
  refine wpAny_bind (wpAny_holding (PySem.W.list_sort_data (s := { s1 with heap := s1.heap.push (seqObj "list" (R1.map fun e => Value.ref e.1).toArray 0) }) (enc := fun e : Addr × NestedKey => e.2.data) (R := fun v e => v = Value.ref e.1) hL (each_self fun _ _ => rfl) (each_self rd1) a1 a2 (by rw [sizeLine_eq]; omega)
    (fun e he => by have := deep e (pR.mem_iff.mp he); simp only [Around.in1_units]; omega) fun out l ei => ?_))
  have eo := each_eq (f := fun e : Addr × NestedKey => Value.ref e.1) ei
  obtain ⟨n, hn⟩ := sortedHeap_at (vs := R1.map fun e => Value.ref e.1) (out := out.toArray) hL
  rw [eo] at hn
  refine wpAny_pure ⟨_, rfl, q _ s1.heap.objs.size R1 n (fun b u z => ?_) g1 o1 z1 pR (by rw [eo]; exact hn)⟩
  have z2 := k1 b u z
  have lt := Heap.lt_size z2
  show (sortedHeap (s1.heap.push _) s1.heap.objs.size _ _).get? b = some u
  rw [sortedHeap_old (Nat.ne_of_lt lt) (by rw [size_push']; exact Nat.lt_succ_of_lt lt)]
  exact Heap.get?_push_of_some _ z2
end
end SN
set_option Elab.async false
set_option linter.all false
set_option maxRecDepth 100000
set_option maxHeartbeats 4000000
namespace SN
open PySem PySem.Spec PyProof.Rows L2
open PySem.W (EachIs AllAlike Sortable dataLe Frag)
/-! ### sets of tuples over the hand layer -/
/-- the set at a, what its tuples are left aside -/
def Sack (P : Program) (w : World) (h : Heap) (a : Addr) (R : List (Addr × NestedKey)) : Prop :=
  ∃ es ep t, (∃ o, h.get? a = some o ∧ o.ExactSet ∧ o.data = .set es ep t) ∧ es.toList = cells (NK P w) R ∧ TabOk t (R.map fun e => (NK P w).hash e.2) ∧ (R.map (·.2)).Nodup ∧ (w.params.followText "set-order" = true ∨ t.led = true) ∧ R.length * 5 < t.mask * 3
def SackO (P : Program) (w : World) (a : Addr) (R : List (Addr × NestedKey)) : HO := .ext fun h => Sack P w h a R
section
variable {P : Program} {w : World} {h : Heap} {a : Addr} {R : List (Addr × NestedKey)} {es : Array (Int × Value)} {ep : Nat} {t : SetTable}
theorem Bag.sack (B : Bag (NK P w) h a R es ep t) : Sack P w h a R := ⟨es, ep, t, B.obj, B.lay, B.tok, B.dis, B.ord, B.gap⟩
theorem Sack.bag (S : Sack P w h a R) (m : ∀ e ∈ R, (NK P w).is h e.2 e.1) : ∃ es ep t, Bag (NK P w) h a R es ep t := by
  obtain ⟨es, ep, t, c1, c2, c3, c4, c5, c6⟩ := S
  exact ⟨es, ep, t, c1, c2, c3, c4, m, c5, c6⟩
theorem sack_ok {H : Hp} (S : Sack P w h a R) : ObjOk P w H h a (SackO P w a R) := by
  obtain ⟨es, ep, t, ⟨o, ho, _⟩, _⟩ := id S
  refine ⟨S, ⟨o, ho⟩, fun h1 h2 x k => ?_⟩
  obtain ⟨es, ep, t, ⟨o, ho, r⟩, q⟩ := (show Sack P w h1 a R from x)
  exact ⟨es, ep, t, ⟨o, k o ho, r⟩, q⟩
end
/-- these are tuples, read as these keys -/
def Keyed (K : Frag) (H : Hp) (e : Addr × NestedKey) : Prop := Dp K H (.ref e.1) e.2.data ∧ e.2.depth ≤ 8
theorem refs_vals (ks : List (Addr × NestedKey)) : Vals (ks.map fun e => V.ref e.1) (ks.map fun e => Value.ref e.1) := by
  induction ks with
  | nil => exact .nil
  | cons e ks ih => exact .cons rfl ih
theorem vals_refs : ∀ {ks : List (Addr × NestedKey)} {us : List Value}, Vals (ks.map fun e => V.ref e.1) us → us = ks.map fun e => Value.ref e.1
  | [], _, .nil => rfl
  | _ :: ks, _, .cons r t => by cases r; rw [vals_refs t]; rfl
section
variable {X : Cx} {pins : List (Addr × Obj)} {σ : L2.St} {H : Hp} {s : Shared}
theorem keyed_is (I : Inv X pins σ H s) {e : Addr × NestedKey} (k : Keyed X.K H e) : (NK X.prog X.w).is s.heap e.2 e.1 ∧ Reads s.heap (.ref e.1) e.2.data [] := by
  obtain ⟨as, r⟩ := Dp.reads I _ _ (.ref e.1) k.1 rfl
  obtain ⟨rfl, n⟩ := nested_reads _ _ _ r
  exact ⟨⟨n, k.2⟩, r⟩
def rSetN (K : Frag) (P : Program) (w : World) : List V → Hp → VK → Prop := fun xs H Q => ∃ (l : Addr) (ks : List (Addr × NestedKey)), xs = [.ref l] ∧ (SqL K H l (ks.map fun e => V.ref e.1) ∨ SqT K H l (ks.map fun e => V.ref e.1)) ∧
  (∀ e ∈ ks, Keyed K H e) ∧ ks.length ≤ 76 ∧ ∀ (a : Addr) (R : List (Addr × NestedKey)), H a = none → (R.map (·.2)).Nodup → (∀ e ∈ R, e ∈ ks) → (∀ e ∈ ks, e.2 ∈ R.map (·.2)) → Q (.ref a) (upd H a (SackO P w a R))
theorem cr_setN (hc : X.calm = true) (hu : X.A.units + 64 < cLine) : CallR X (.type "set") (rSetN X.K X.prog X.w) := by
  intro pins s σ H xs us Q I r h
  obtain ⟨l, ks, rfl, hl, hk, most, q⟩ := h
  rw [Vals.ref1 r]
  have fin : ∀ (h' : Heap) (tk : Nat) R es ep t, Bag (NK X.prog X.w) h' s.heap.objs.size R es ep t → Some1 ks ks.length R → (∀ b u, s.heap.get? b = some u → h'.get? b = some u) → EP X pins σ Q (.ref s.heap.objs.size) { s with heap := h', toks := tk } := fun h' tk R es ep t B g k => by
    refine ⟨.ref s.heap.objs.size, _, I.laid (t' := tk) k (Nat.le_refl _) (sack_ok B.sack), rfl, q _ R (I.hok.fresh (Nat.le_refl _)) B.dis (fun e he => ?_) fun e he => ?_⟩
    · exact List.mem_of_mem_take (g.old e he)
    · exact g.hit e (by rw [List.take_length]; exact he)
  rcases hl with hl | hl
  · obtain ⟨its, rv, ⟨o, n, ho, hc1, _, hd⟩, hz⟩ := I.list hl
    exact set_call fit_nested (src_list hc1 ⟨n, hd⟩) ho (I.ok.hd hc) (by simpa using vals_refs rv) (fun e he => (keyed_is I (hk e he)).1) most (fun B hb => by show B.units + 8 < cLine; omega) fin
  · obtain ⟨its, rv, ⟨o, ho, hc1, n, hd⟩, hz⟩ := I.tuple hl
    exact set_call fit_nested (src_tup hc1 ⟨n, hd⟩) ho (I.ok.hd hc) (by simpa using vals_refs rv) (fun e he => (keyed_is I (hk e he)).1) most (fun B hb => by show B.units + 8 < cLine; omega) fin
def rLenN (P : Program) (w : World) : List V → Hp → VK → Prop := fun xs H Q => ∃ (a : Addr) (R : List (Addr × NestedKey)), xs = [.ref a] ∧ H a = some (SackO P w a R) ∧ Q (.int R.length) H
theorem cr_lenN : CallR X (.builtin "len") (rLenN X.prog X.w) := by
  intro pins s σ H xs us Q I r h
  obtain ⟨a, R, rfl, ha, q⟩ := h
  rw [Vals.ref1 r]
  obtain ⟨es, ep, t, ⟨o, ho, hex, hd⟩, c2, c3, c4, c5, c6⟩ := (show Sack X.prog X.w s.heap a R from (I.hok a _ ha).1)
  have z := lay_size c2
  have z2 := c3.sz
  rw [List.length_map] at z2
  have few : R.length ≤ 76 := by rcases c3.mok with e | e | e <;> rw [e] at c6 <;> omega
  refine call_len_set ho hex hd (fits_of (by rw [z2, z]) c3.dm (by rw [z]; omega)) (by rw [z]; omega) ⟨.int R.length, H, I.tok _, ⟨_, by rw [z]⟩, q⟩
def rSortedN (K : Frag) (P : Program) (w : World) : List V → Hp → VK → Prop := fun xs H Q => ∃ (a : Addr) (R : List (Addr × NestedKey)), xs = [.ref a] ∧ H a = some (SackO P w a R) ∧ (∀ e ∈ R, Keyed K H e) ∧ (∀ e ∈ R, e.2.data.depth ≤ 60) ∧
  (∀ R1 : List (Addr × NestedKey), R1.Perm R → AllAlike (R1.map fun e => e.2.data) ∧ Sortable (R1.map fun e => e.2.data)) ∧
  ∀ (R1 : List (Addr × NestedKey)) (p : Addr), R1.Perm R → H p = none → Q (.ref p) (upd H p (.lst ((R1.mergeSort keyLe).map fun e => V.ref e.1)))
theorem cr_sortedN (hc : X.calm = true) (hu : X.A.units + 64 < cLine) : CallR X (.builtin "sorted") (rSortedN X.K X.prog X.w) := by
  intro pins s σ H xs us Q I r h
  obtain ⟨a, R, rfl, ha, hk, deep, al, q⟩ := h
  rw [Vals.ref1 r]
  obtain ⟨es, ep, t, B⟩ := Sack.bag (show Sack X.prog X.w s.heap a R from (I.hok a _ ha).1) fun e he => (keyed_is I (hk e he)).1
  have few := B.few
  refine sorted_bag B (I.ok.hd hc) hu (fun e he => ⟨_, (keyed_is I (hk e he)).2⟩) deep al fun s' p R1 n k g o hp pm hn => ?_
  have ln : ((R1.mergeSort keyLe).map fun e => V.ref e.1).length ≤ sizeLine := by
    rw [List.length_map, List.length_mergeSort, pm.length_eq, sizeLine_eq]
    omega
  have J := I.call (g' := s'.gens) (t' := s'.toks) (d' := s'.drawn) (ch := []) (Un.laid k hp (I.hok.fresh hp)) (I.hok.laid (o := .lst ((R1.mergeSort keyLe).map fun e => V.ref e.1)) k hp ⟨ln, _, n, refs_vals _, hn⟩) (by rw [g]; exact I.bare) (fun _ z => nomatch z)
  obtain ⟨h1, g1, d1, t1, o1⟩ := s'
  obtain rfl : o1 = s.os := o
  exact ⟨.ref p, _, J, rfl, q R1 p pm (I.hok.fresh hp)⟩
end
end SN
set_option Elab.async false
set_option linter.all false
set_option maxRecDepth 100000
set_option maxHeartbeats 2000000
namespace OW
open PySem PySem.Spec PyProof.Rows L2
open PySem.W (Frag findIn isFn selfFirst subIn notFirst)
/-! ### operators of a class's own, over the hand layer -/
section
variable {X : Cx} {CX : CXT} {k : Nat} {C f : Addr} {fd : FuncData} {ps : List Str} {sp : Sp} {E : XK}
/-- a def of the class, as an operator reaches it -/
structure Dun (K : Frag) (C : Addr) (name : Str) (f : Addr) (fd : FuncData) (ps : List Str) : Prop where
  at_ : findIn K (.ref C) name = some (some (.ref f))
  fn : isFn K (.ref f) = true
  b : Binds K fd ps []
theorem run2 {A : Around} {pins : List (Addr × Obj)} {σ : L2.St} {H : Hp} {s : Shared} {Q : VK} {us : List Value} {vs : List V} (F : FnOk X.prog X.w X.K X.mg X.base CX k f fd ps sp) (hr : Room k A) (e0 : Env0 X.prog X.w X.K X.mg X.base A X.stack s H)
    (hb : Binds X.K fd ps []) (hx : Passes CX X E) (I : Inv X pins σ H s) (r : Vals vs us) (h : sp vs H Q E) : wpAny (model X.prog X.w) A (call (.ref f) us) (EP X pins σ Q) X.xe s := by
  have hl : (us ++ []).length = ps.length := by rw [List.append_nil, ← r.length]; exact F.len _ _ _ _ h
  have b := hb s us I.kIn hl
  rw [List.append_nil] at b
  refine wpAny_call (codeAny_mono (F.run A X.stack s H ⟨us, []⟩ us vs Q E hr e0 b r h) fun r s' hq => ?_)
  match r, hq with
  | .error e, hq => exact hx pins σ H s e s' I hq
  | .ok (.ret u), hq => exact I.after hq
/-- x op y, both of the class -/
def rBin (C : Addr) (sp : Sp) (E : XK) : R2 := fun x y H Q => ∃ a dx fs b dy gs, x = .ref a ∧ y = .ref b ∧ H a = some (.ins C dx fs) ∧ H b = some (.ins C dy gs) ∧ sp [.ref a, .ref b] H Q E
theorem op_bin {op : Operator} (F : FnOk X.prog X.w X.K X.mg X.base CX k f fd ps sp) (hr : Room k X.A) (hc : selfFirst X.K C = true) (D : Dun X.K C (PySem.dunder op.info.2) f fd ps) (hx : Passes CX X E) : OpR X (binaryOp op) (rBin C sp E) := by
  intro pins s σ H x y v u Q I rx ry h
  obtain ⟨a, dx, fs, b, dy, gs, rfl, rfl, ha, hb, q⟩ := h
  cases rx
  cases ry
  obtain ⟨mA, O, _⟩ := ins_get I.hok ha
  obtain ⟨mB, O', _⟩ := ins_get I.hok hb
  obtain ⟨od, J, _⟩ := O.look
  obtain ⟨od', J', _⟩ := O'.look
  obtain ⟨m, hF⟩ := I.fr
  refine PySem.W.binop_K (op := op) hF I.ok.mod.kin J J'.type hc D.at_ D.fn ?_
  refine wpAny_mono (run2 (us := [.ref a, .ref b]) (vs := [.ref a, .ref b]) F hr I.env0 D.b hx I (.cons rfl (.cons rfl .nil)) q) (fun w s' z => ?_) fun _ _ e => e
  obtain ⟨z', H', I', rz, qz⟩ := z
  exact SlX.cmpback rz ⟨z', H', I', rz, qz⟩
/-- what a built-in class on the right has for the operator -/
structure Rt (K : Frag) (C : Addr) (nm T : String) : Prop where
  h1 : ∃ fo, findIn K (.type T) (PySem.dunder nm) = some fo
  h2 : ∃ ro, findIn K (.type T) (dunderR nm) = some ro
  sub : subIn K (.type T) (.ref C) = some false
/-- x op y, y of a built-in class -/
def rBinT (K : Frag) (C : Addr) (nm : String) (sp : Sp) (E : XK) : R2 := fun x y H Q => ∃ a dx fs T, x = .ref a ∧ H a = some (.ins C dx fs) ∧ TyX K H y (.type T) ∧ Rt K C nm T ∧ sp [.ref a, y] H Q E
theorem typ_pure {pins : List (Addr × Obj)} {σ : L2.St} {H : Hp} {s : Shared} {y : V} {u : Value} {t : Value} (I : Inv X pins σ H s) (ry : RelV y u) (ty : TyX X.K H y t) : PySem.W.Looks (model X.prog X.w) s.heap (typeOf u) t := by
  obtain ⟨P, Z, p, _⟩ := kit_of I ry ty
  exact Z.ty (model X.prog X.w) _ I.kIn p
/-- the machine's side: the operand on the right is of a built-in class, whatever it is -/
theorem bin_built {prog : Program} {w : World} {A : Around} {Z : Value → Shared → Prop} {s : Shared} {K : Frag} {x C L f : Addr} {h₀ : Heap} {m : Str → Option Value} {ox : Obj} {od : Option Obj} {T : String} {op : Operator} {b : Value} {rc : Option Value} {Q : Value → Shared → Prop}
    (F : Fr h₀ L s.heap m) (X₀ : K.In h₀) (I : PySem.W.InstAt s.heap x ox C od) (hb : PySem.W.Looks (model prog w) s.heap (typeOf b) (.type T)) (hc : selfFirst K C = true)
    (hs : findIn K (.ref C) (PySem.dunder op.info.2) = some (some (.ref f))) (hf : isFn K (.ref f) = true) (hr : findIn K (.ref C) (dunderR op.info.2) = some rc) (hp : rc = none ∨ ∃ g : Addr, rc = some (.ref g)) (R : Rt K C op.info.2 T)
    (h : wpAny (model prog w) A (call (.ref f) [.ref x, b]) (PySem.W.CmpBack Q) Z s) : wpAny (model prog w) A (binaryOp op (.ref x) b) Q Z s := by
  have kin := X₀.keeps F.keep
  obtain ⟨cd, more, c1, c2⟩ := PySem.W.ksp_first hc
  obtain ⟨⟨fo, r1⟩, ⟨ro, r2⟩, r3⟩ := R
  rcases hi : op.info with ⟨sign, nm⟩
  rw [hi] at hs hr r1 r2
  dsimp only at hs hr r1 r2
  have tried := PySem.W.ksp_try kin I hs hf h
  have e0 : (Value.ref C == Value.type T) = false := Bool.eq_false_iff.mpr fun z => nomatch beq_iff_eq.mp z
  obtain ⟨hh, gg, dd, tt, oo⟩ := s
  have look1 : PySem.W.Looks (model prog w) hh (typeOf (.ref x)) (.ref C) := I.type
  have look2 : PySem.W.Looks (model prog w) hh (typeOf b) (.type T) := hb
  have look3 : PySem.W.Looks (model prog w) hh (fillsNumberSlot (.ref C) nm) true := PySem.W.fills_K kin c1 c2 hs
  have look4 : PySem.W.Looks (model prog w) hh (fillsNumberSlot (.type T) nm) _ := PySem.W.ksp_fillsT kin r1 r2
  have look5 : PySem.W.Looks (model prog w) hh (isSubtype (.type T) (.ref C)) false := PySem.W.looks_subIn kin r3
  have look6 : PySem.W.Looks (model prog w) hh (numberSlotInPython (.ref C) nm) true := PySem.W.ksp_inPy kin hs hr hp
  have look7 : PySem.W.Looks (model prog w) hh (numberSlotInPython (.type T) nm) false := PySem.W.Looks.of_pure rfl
  have look8 : PySem.W.Looks (model prog w) hh (typeLookup (.type T) (dunderR nm)) ro := PySem.W.looks_findIn kin r2
  generalize ((fo.isSome && !isSeqSlot fo) || (ro.isSome && !isSeqSlot ro)) = both at look4
  have last : ∀ {r : Option Value} {z : Shared}, (∃ v, r = some v ∧ Q v z) → ∃ v, r = some v ∧ Q v z := fun y => y
  simp only [binaryOp, hi]
  refine wpAny_holding (wpAny_bind ?_)
  unfold binaryOp1
  refine wpAny_bind (look1.at (wpAny_bind (look2.at (wpAny_bind (look3.at ?_)))))
  simp only [e0, Bool.false_eq_true, if_false]
  cases both <;>
  · ksp_lk
    refine wpAny_mono tried (fun r z y => ?_) fun _ _ y => y
    obtain ⟨v, rfl, qv⟩ := y
    ksp_lk
    exact qv
theorem op_binT {op : Operator} (F : FnOk X.prog X.w X.K X.mg X.base CX k f fd ps sp) (hr : Room k X.A) (hc : selfFirst X.K C = true) (D : Dun X.K C (PySem.dunder op.info.2) f fd ps) (dr : findIn X.K (.ref C) (dunderR op.info.2) = some none) (hx : Passes CX X E) :
    OpR X (binaryOp op) (rBinT X.K C op.info.2 sp E) := by
  intro pins s σ H x y v u Q I rx ry h
  obtain ⟨a, dx, fs, T, rfl, ha, ty, R, q⟩ := h
  cases rx
  obtain ⟨mA, O, _⟩ := ins_get I.hok ha
  obtain ⟨od, J, _⟩ := O.look
  obtain ⟨m, hF⟩ := I.fr
  refine bin_built (op := op) hF I.ok.mod.kin J (typ_pure I ry ty) hc D.at_ D.fn dr (.inl rfl) R ?_
  refine wpAny_mono (run2 (us := [.ref a, u]) (vs := [.ref a, y]) F hr I.env0 D.b hx I (.cons rfl (.cons ry .nil)) q) (fun w s' z => ?_) fun _ _ e => e
  obtain ⟨z', H', I', rz, qz⟩ := z
  exact SlX.cmpback rz ⟨z', H', I', rz, qz⟩
/-! ### ==, !=, in, len, bool, str -/
/-- x == y, whatever y is -/
def rEqO (K : Frag) (C : Addr) (sp : Sp) (E : XK) : R2 := fun x y H Q => ∃ a dx fs t, x = .ref a ∧ H a = some (.ins C dx fs) ∧ ((TyX K H y t ∧ notFirst K C t = true) ∨ ∃ b dy gs, y = .ref b ∧ H b = some (.ins C dy gs)) ∧ sp [.ref a, y] H Q E
theorem same_first {K : Frag} : notFirst K C (.ref C) = true := by unfold PySem.W.notFirst; simp
theorem op_eqO (F : FnOk X.prog X.w X.K X.mg X.base CX k f fd ps sp) (hr : Room k X.A) (D : Dun X.K C "__eq__" f fd ps) (hx : Passes CX X E) : OpR X (compareOp .Eq) (rEqO X.K C sp E) := by
  intro pins s σ H x y v u Q I rx ry h
  obtain ⟨a, dx, fs, t, rfl, ha, ty, q⟩ := h
  cases rx
  obtain ⟨mA, O, _⟩ := ins_get I.hok ha
  obtain ⟨od, J, _⟩ := O.look
  obtain ⟨m, hF⟩ := I.fr
  have two : ∃ t, PySem.W.Looks (model X.prog X.w) s.heap (typeOf u) t ∧ notFirst X.K C t = true := by
    rcases ty with ⟨ty, n⟩ | ⟨b, dy, gs, rfl, hb⟩
    · exact ⟨t, typ_pure I ry ty, n⟩
    · cases ry
      obtain ⟨mB, O', _⟩ := ins_get I.hok hb
      obtain ⟨od', J', _⟩ := O'.look
      exact ⟨_, J'.type, same_first⟩
  obtain ⟨t, lk, nf⟩ := two
  show wpAny _ _ (richCompare .Eq (.ref a) u) _ _ s
  refine PySem.W.cmp_K (op := .Eq) hr.units0 hF I.ok.mod.kin J lk nf D.at_ D.fn ?_
  refine wpAny_mono (run2 (us := [.ref a, u]) (vs := [.ref a, y]) F hr I.env0 D.b hx I (.cons rfl (.cons ry .nil)) q) (fun w s' z => ?_) fun _ _ e => e
  obtain ⟨z', H', I', rz, qz⟩ := z
  exact SlX.cmpback rz ⟨z', H', I', rz, qz⟩
/-- y in x, x of the class -/
def rInO (C : Addr) (sp : Sp) (E : XK) : R2 := fun y x H Q => ∃ a dx fs, x = .ref a ∧ H a = some (.ins C dx fs) ∧ sp [.ref a, y] H (fun r H' => ∃ b, r = .bl b ∧ Q (.bl b) H') E
theorem op_inO (F : FnOk X.prog X.w X.K X.mg X.base CX k f fd ps sp) (hr : Room k X.A) (D : Dun X.K C "__contains__" f fd ps) (hx : Passes CX X E) : OpR X (compareOp .In) (rInO C sp E) := by
  intro pins s σ H y x u v Q I ry rx h
  obtain ⟨a, dx, fs, rfl, ha, q⟩ := h
  cases rx
  obtain ⟨mA, O, _⟩ := ins_get I.hok ha
  obtain ⟨od, J, _⟩ := O.look
  obtain ⟨m, hF⟩ := I.fr
  refine PySem.W.in_K hF I.ok.mod.kin J D.at_ D.fn ?_
  refine wpAny_mono (run2 (us := [.ref a, u]) (vs := [.ref a, y]) F hr I.env0 D.b hx I (.cons rfl (.cons ry .nil)) q) (fun w s' z => ?_) fun _ _ e => e
  obtain ⟨z', H', I', rz, b, rfl, qz⟩ := z
  cases rz
  exact wpAny_truthy_bool ⟨.bl b, H', I', rfl, qz⟩
/-- len(x) -/
def rLenO (C : Addr) (sp : Sp) (E : XK) : List V → Hp → VK → Prop := fun xs H Q => ∃ a dx fs, xs = [.ref a] ∧ H a = some (.ins C dx fs) ∧ sp [.ref a] H (fun r H' => ∃ n : Int, r = .int n ∧ 0 ≤ n ∧ n < 2 ^ 63 ∧ Q (.int n) H') E
theorem call_lenO (F : FnOk X.prog X.w X.K X.mg X.base CX k f fd ps sp) (hr : Room (k + 1) X.A) (D : Dun X.K C "__len__" f fd ps) (hx : Passes CX X E) : CallR X (.builtin "len") (rLenO C sp E) := by
  intro pins s σ H xs us Q I r h
  obtain ⟨a, dx, fs, rfl, ha, q⟩ := h
  rw [Vals.ref1 r]
  obtain ⟨mA, O, _⟩ := ins_get I.hok ha
  obtain ⟨od, J, _⟩ := O.look
  obtain ⟨m, hF⟩ := I.fr
  refine PySem.W.len_K hF I.ok.mod.kin J D.at_ D.fn ?_
  refine wpAny_mono (run2 (us := [.ref a]) (vs := [.ref a]) F hr.in1 I.env0.in1 D.b hx I (.cons rfl .nil) q) (fun w s' z => ?_) fun _ _ e => e
  obtain ⟨z', H', I', rz, n, rfl, n0, n1, qz⟩ := z
  obtain ⟨t, rfl⟩ := rz
  exact ⟨⟨n0, n1⟩, .int n, H', I'.tok _, ⟨_, rfl⟩, qz⟩
/-- bool(x) -/
def rTruO (C : Addr) (sp : Sp) (E : XK) : List V → Hp → VK → Prop := fun xs H Q => ∃ a dx fs, xs = [.ref a] ∧ H a = some (.ins C dx fs) ∧ sp [.ref a] H (fun r H' => ∃ b, r = .bl b ∧ Q (.bl b) H') E
end
end OW
set_option Elab.async false
set_option linter.all false
set_option maxRecDepth 100000
set_option maxHeartbeats 4000000
namespace OW
open PySem PySem.Spec PyProof.Rows L2
open PySem.W (Frag findIn isFn selfFirst subIn notFirst)
section
variable {prog : Program} {w : World} {A : Around} {Z : Value → Shared → Prop} {s : Shared} {K : Frag} {x C f g : Addr} {ox : Obj} {od : Option Obj}
/-- bool(x) by what truth asks of x -/
theorem bool_by {u : Value} {Q : Value → Shared → Prop} (h : wpAny (model prog w) A.in1.in1 (truthy u) (fun b z => Q (.bool b) z) Z s) : wpAny (model prog w) A (call (.type "bool") [u]) Q Z s := by
  refine callType_codes (T := "bool") (Bi := Builtin.«object.__init__») (Q₁ := fun r z => ∃ b, r = .bool b ∧ Q r z) PySem.F.called_bool (PySem.F.typeCall_bool_1 _) PySem.F.entry_object_init ?_ ?_
  · refine codeAny_of_tree ?_
    show wpAny _ A.in1.in1 (do checkBuiltinCall "bool.__new__" ⟨[.type "bool", u], []⟩; again (.builtin "bool.__new__" ⟨[.type "bool", u], []⟩)) _ _ s
    refine wpAny_bind (wpAny_of_eq (PySem.F.newCall_bool_1 _) (wpAny_pure ⟨plainId_quiet (by decide +kernel) _, codeAny_builtin PySem.F.entry_bool_new ?_⟩))
    rw [Around.under_plainId (by decide +kernel) _]
    have f1 := PySem.F.conv_sub_bool
    have h2 : wpAny (model prog w) A.in1.in1 (truthy u) (fun b z => ∃ c, Value.bool b = .bool c ∧ Q (.bool b) z) Z s := wpAny_mono h (fun b z q => ⟨b, rfl, q⟩) fun _ _ y => y
    unfold Builtin.«bool.__new__»
    generalize hTR : truthy = TR
    wp_walk
    subst hTR
    refine wpAny_mono h2 (fun b z y => ?_) fun _ _ y => y
    exact wpAny_pure y
  · rintro obj z ⟨b, rfl, q⟩
    exact ⟨PySem.typeIs_bool _ _, PySem.F.args_object_init_2 _ _, object_init_meets PySem.F.called_bool.init.lookup PySem.F.called_bool.made (by decide) prog w A.in1 _ z ⟨PySem.typeIs_bool _ _, rfl, q⟩⟩
theorem str_by {u : Value} {Q : Value → Shared → Prop} (nt : ∀ y t, u ≠ .str y t) (hu : A.in1.in1.units < cLine) (h : wpAny (model prog w) A.in1.in1 (callSpecial? u (Str.ofString "__str__") []) (fun r z => ∃ y t, r = some (.str y t) ∧ Q (.str y t) z) Z s) :
    wpAny (model prog w) A (call (.type "str") [u]) Q Z s := by
  refine callType_codes (T := "str") (Bi := Builtin.«object.__init__») (Q₁ := fun r z => ∃ y t, r = .str y t ∧ Q r z) PySem.F.called_str (PySem.F.typeCall_str_1 _) PySem.F.entry_object_init ?_ ?_
  · refine codeAny_of_tree ?_
    show wpAny _ A.in1.in1 (do checkBuiltinCall "str.__new__" ⟨[.type "str", u], []⟩; again (.builtin "str.__new__" ⟨[.type "str", u], []⟩)) _ _ s
    refine wpAny_bind (wpAny_of_eq (PySem.F.newCall_str_1 _) (wpAny_pure ⟨plainId_quiet (by decide +kernel) _, codeAny_builtin PySem.F.entry_str_new ?_⟩))
    rw [Around.under_plainId (by decide +kernel) _, str_new_tree]
    refine wpAny_bind (wpAny_pure (wpAny_bind (wpAny_of_eq isSubtype_str_str ?_)))
    have ex : Builtin.Str.isExactStr u = false := by cases u <;> first | rfl | exact absurd rfl (nt _ _)
    refine wpAny_bind (m := Builtin.Str.strOf u) ?_
    unfold Builtin.Str.strOf
    rw [ex]
    refine wpAny_bind (m := cRoomFor _ _) (wpAny_cRoomFor hu (wpAny_bind (m := callSpecial? u (Str.ofString "__str__")) (wpAny_mono h (fun r z q => ?_) fun _ _ y => y)))
    obtain ⟨y, t, rfl, q⟩ := q
    exact wpAny_pure (wpAny_pure ⟨y, t, rfl, q⟩)
  · rintro obj z ⟨y, t, rfl, q⟩
    exact ⟨PySem.typeIs_str _ _ _, PySem.F.args_object_init_2 _ _, object_init_meets PySem.F.called_str.init.lookup PySem.F.called_str.made (by decide) prog w A.in1 _ z ⟨PySem.typeIs_str _ _ _, rfl, q⟩⟩
end
end OW
set_option Elab.async false
set_option linter.all false
set_option maxRecDepth 100000
set_option maxHeartbeats 4000000
namespace OW
open PySem PySem.Spec PyProof.Rows L2
open PySem.W (Frag findIn isFn selfFirst subIn notFirst)
section
variable {prog : Program} {w : World} {A : Around} {Z : Value → Shared → Prop} {s : Shared} {K : Frag} {x y C f : Addr} {ox oy : Obj} {od od' : Option Obj}
theorem bound_ne {M : Model} {args : List Value} {Q : Option Value → Shared → Prop} (kin : K.In s.heap) (J : PySem.W.InstAt s.heap x ox C od) (hs : findIn K (.ref C) "__ne__" = some (some (.builtin "object.__ne__")))
    (h : wpAny M A (call (.builtin "object.__ne__") (.ref x :: args)) (fun v => Q (some v)) Z s) : wpAny M A (callSpecialIfBound? (.ref x) "__ne__" args) Q Z s := by
  have fin : wpAny M A (call (.builtin "object.__ne__") ([.ref x] ++ args) >>= fun v => pure (some v)) Q Z s := wpAny_bind (wpAny_mono h (fun v z q => wpAny_pure q) fun _ _ q => q)
  simp only [callSpecialIfBound?, bindSpecialIfBound?]
  refine wpAny_holding (wpAny_bind (wpAny_bind (wpAny_bind (J.type.here ((PySem.W.looks_findIn kin hs).here (wpAny_bind (wpAny_askSetting (wpAny_ite ?_))))))))
  split
  · exact wpAny_bind (wpAny_of_eq (PySem.F.cmp_object.ne.bind _) (wpAny_pure (by exact fin)))
  · exact wpAny_tryCatch (wpAny_bind (wpAny_of_eq (PySem.F.cmp_object.ne.bind _) (wpAny_pure (by exact fin))))
theorem ne_by {Q : Value → Shared → Prop} (hu : A.units + 1 < cLine) (kin : K.In s.heap) (J : PySem.W.InstAt s.heap x ox C od) (J' : PySem.W.InstAt s.heap y oy C od') (hm : PySem.W.mroIn K C (.type "object") = some true)
    (hn : findIn K (.ref C) "__ne__" = some (some (.builtin "object.__ne__"))) (he : findIn K (.ref C) "__eq__" = some (some (.ref f))) (hf : isFn K (.ref f) = true)
    (h : wpAny (model prog w) A.in1 (call (.ref f) [.ref x, .ref y]) (fun v z => ∃ b, v = .bool b ∧ Q (.bool (!b)) z) Z s) : wpAny (model prog w) A (richCompare .NotEq (.ref x) (.ref y)) Q Z s := by
  have one : wpAny (model prog w) A (tryCompare (.ref x) "__ne__" (.ref y)) (fun r z => ∃ b, r = some (.bool b) ∧ Q (.bool b) z) Z s := by
    unfold tryCompare
    refine wpAny_bind (bound_ne kin J hn (wpAny_call (codeAny_call_builtin PySem.F.cmp_object.ne.plain PySem.F.cmpEntry_ne (PySem.W.check_slot PySem.F.cmpKind_ne PySem.F.cmpSplit_ne (J.type.andThen (PySem.W.looks_mroIn kin hm)) (PySem.F.cmpArgs_ne _ _) ?_))))
    unfold Builtin.«object.__ne__»
    refine wpAny_bind (wpAny_pure ?_)
    refine wpAny_bind (wpAny_cRoomFor (by simp only [Around.in1_units]; omega) ?_)
    refine wpAny_bind (PySem.W.ifBound_K kin J he hf (wpAny_mono h (fun v z q => ?_) fun _ _ q => q))
    obtain ⟨b, rfl, q⟩ := q
    exact wpAny_bind (wpAny_truthy_bool (wpAny_pure (wpAny_pure ⟨!b, rfl, q⟩)))
  unfold richCompare
  simp only [oneThing_ref]
  refine wpAny_holding (wpAny_bind (wpAny_cRoomFor (by omega) (wpAny_bind (J.type.here (wpAny_bind (J'.type.here ?_))))))
  simp only [bne_self_eq_false, Bool.false_and, Bool.false_eq_true, if_false]
  try refine wpAny_bind (wpAny_pure ?_)
  try simp only [Bool.false_eq_true, if_false]
  refine wpAny_bind (wpAny_mono one (fun r z q => ?_) fun _ _ q => q)
  obtain ⟨b, rfl, q⟩ := q
  exact wpAny_pure q
end
section
variable {X : Cx} {CX : CXT} {k : Nat} {C f : Addr} {fd : FuncData} {ps : List Str} {sp : Sp} {E : XK}
theorem call_boolO (F : FnOk X.prog X.w X.K X.mg X.base CX k f fd ps sp) (hr : Room (k + 2) X.A) (D : Dun X.K C "__bool__" f fd ps) (hx : Passes CX X E) : CallR X (.type "bool") (rTruO C sp E) := by
  intro pins s σ H xs us Q I r h
  obtain ⟨a, dx, fs, rfl, ha, q⟩ := h
  rw [Vals.ref1 r]
  obtain ⟨mA, O, _⟩ := ins_get I.hok ha
  obtain ⟨od, J, _⟩ := O.look
  obtain ⟨m, hF⟩ := I.fr
  have r2 : Room k X.A.in1.in1 := (show Room (k + 1) X.A.in1 from hr.in1).in1
  refine bool_by (PySem.W.truthy_K hF I.ok.mod.kin J D.at_ D.fn (wpAny_mono (run2 (us := [.ref a]) (vs := [.ref a]) F r2 I.env0.in1.in1 D.b hx I (.cons rfl .nil) q) (fun w s' z => ?_) fun _ _ e => e))
  obtain ⟨z', H', I', rz, b, rfl, qz⟩ := z
  cases rz
  exact ⟨.bl b, H', I', rfl, qz⟩
/-- bool(a tuple) -/
theorem call_boolT : CallR X (.type "bool") (fun xs H Q => ∃ (a : Addr) (zs : List V), xs = [.ref a] ∧ SqT X.K H a zs ∧ Q (.bl (!zs.isEmpty)) H) := by
  intro pins s σ H xs us Q I r h
  obtain ⟨a, zs, rfl, hq, q⟩ := h
  rw [Vals.ref1 r]
  obtain ⟨its, rv, pl, hz⟩ := I.tuple hq
  have hl := line63
  have hlen := rv.length
  exact bool_by (truthy_tuple pl (by simp only [List.size_toArray]; omega) ⟨.bl (!zs.isEmpty), H, I.tok _, by rw [isEmpty_of rv]; rfl, q⟩)
/-- str(x) -/
def rStrO (C : Addr) (sp : Sp) (E : XK) : List V → Hp → VK → Prop := fun xs H Q => ∃ a dx fs, xs = [.ref a] ∧ H a = some (.ins C dx fs) ∧ sp [.ref a] H (fun r H' => ∃ z, r = .str z ∧ Q (.str z) H') E
theorem call_strO (F : FnOk X.prog X.w X.K X.mg X.base CX k f fd ps sp) (hr : Room (k + 2) X.A) (D : Dun X.K C "__str__" f fd ps) (hx : Passes CX X E) : CallR X (.type "str") (rStrO C sp E) := by
  intro pins s σ H xs us Q I r h
  obtain ⟨a, dx, fs, rfl, ha, q⟩ := h
  rw [Vals.ref1 r]
  obtain ⟨mA, O, _⟩ := ins_get I.hok ha
  obtain ⟨od, J, _⟩ := O.look
  have r2 : Room k X.A.in1.in1 := (show Room (k + 1) X.A.in1 from hr.in1).in1
  refine str_by (fun y t z => nomatch z) r2.units0 (PySem.W.special_fn I.kIn J D.at_ (beq_iff_eq.mp D.fn) (wpAny_mono (run2 (us := [.ref a]) (vs := [.ref a]) F r2 I.env0.in1.in1 D.b hx I (.cons rfl .nil) q) (fun w s' z => ?_) fun _ _ e => e))
  obtain ⟨z', H', I', rz, y, rfl, qz⟩ := z
  obtain ⟨t, rfl⟩ := rz
  exact ⟨y, t, rfl, .str y, H', I', ⟨t, rfl⟩, qz⟩
/-- x != y, both of the class -/
def rNeO (C : Addr) (sp : Sp) (E : XK) : R2 := fun x y H Q => ∃ a dx fs b dy gs, x = .ref a ∧ y = .ref b ∧ H a = some (.ins C dx fs) ∧ H b = some (.ins C dy gs) ∧ sp [.ref a, .ref b] H (fun r H' => ∃ b, r = .bl b ∧ Q (.bl (!b)) H') E
theorem op_neO (F : FnOk X.prog X.w X.K X.mg X.base CX k f fd ps sp) (hr : Room (k + 1) X.A) (D : Dun X.K C "__eq__" f fd ps) (hn : findIn X.K (.ref C) "__ne__" = some (some (.builtin "object.__ne__"))) (hm : PySem.W.mroIn X.K C (.type "object") = some true) (hx : Passes CX X E) :
    OpR X (compareOp .NotEq) (rNeO C sp E) := by
  intro pins s σ H x y v u Q I rx ry h
  obtain ⟨a, dx, fs, b, dy, gs, rfl, rfl, ha, hb, q⟩ := h
  cases rx
  cases ry
  obtain ⟨mA, O, _⟩ := ins_get I.hok ha
  obtain ⟨mB, O', _⟩ := ins_get I.hok hb
  obtain ⟨od, J, _⟩ := O.look
  obtain ⟨od', J', _⟩ := O'.look
  show wpAny _ _ (richCompare .NotEq (.ref a) (.ref b)) _ _ s
  refine ne_by ?_ I.kIn J J' hm hn D.at_ D.fn (wpAny_mono (run2 (us := [.ref a, .ref b]) (vs := [.ref a, .ref b]) F hr.in1 I.env0.in1 D.b hx I (.cons rfl (.cons rfl .nil)) q) (fun w s' z => ?_) fun _ _ e => e)
  · have z := hr.in1.units0
    simp only [Around.in1_units] at z
    exact z
  · obtain ⟨z', H', I', rz, c, rfl, qz⟩ := z
    cases rz
    exact ⟨c, rfl, .bl (!c), H', I', rfl, qz⟩
end
end OW
set_option Elab.async false
set_option linter.all false
set_option maxRecDepth 100000
set_option maxHeartbeats 4000000
namespace KD
open PySem PySem.Spec PyProof.Rows L2 SN
open PySem.W (Frag EachIs AllAlike Sortable dataLe)
section
variable {prog : Program} {w : World} {A : Around} {E : Value → Shared → Prop} {s : Shared}
/-- the items of a list or tuple, gathered -/
theorem gather {l : Addr} {o : Obj} {T : String} {items : Array Value} {n : Nat} {Q : List Value → Shared → Prop} (hT : T = "list" ∨ T = "tuple") (ho : s.heap.get? l = some o) (hc : o.cls = .type T) (hd : o.data = .seq items n) (sz : items.size ≤ sizeLine)
    (q : ∀ h' : Heap, (∀ b u, s.heap.get? b = some u → h'.get? b = some u) → s.heap.objs.size ≤ h'.objs.size → Q items.toList { s with heap := h' }) : wpAny (model prog w) A (collect (.ref l)) Q E s := by
  unfold collect
  refine wpAny_bind (wpAny_runValue (codeAny_builtin entry_proto_collect' ?_))
  show wpAny _ _ (do again (.builtin "list.__iadd__" ⟨[← newList [], .ref l], []⟩)) _ _ s
  refine wpAny_bind (wpAny_newList (wpAny_pure ⟨Code.quiet_builtin _ (by decide +kernel), codeAny_builtin entry_list_iadd' ?_⟩))
  have kept : ∀ b u, s.heap.get? b = some u → (s.heap.push (seqObj "list" #[] 0)).get? b = some u := fun b u z => Heap.get?_push_of_some _ z
  have at0 : (s.heap.push (seqObj "list" #[] 0)).get? s.heap.objs.size = some (seqObj "list" #[] 0) := Heap.get?_push_size _ rfl
  show wpAny _ _ (Builtin.List.listExtendWith (.ref s.heap.objs.size) (.ref l) (.ref s.heap.objs.size)) _ _ { s with heap := s.heap.push (seqObj "list" #[] 0) }
  unfold Builtin.List.listExtendWith
  refine wpAny_bind (wpAny_typeOf (T := T) ⟨o, kept _ _ ho, hc⟩ ?_)
  have way : (Value.type T == Value.type "list" || Value.type T == Value.type "tuple") = true := by rcases hT with e | e <;> subst e <;> decide
  rw [if_pos (by first | exact way | (simp only [Bool.or_eq_true] at way ⊢; rcases way with z | z <;> simp [z]))]
  refine wpAny_bind (listItems_at (kept _ _ ho) hd ?_)
  refine wpAny_bind (listItems_at (xs := #[]) (n := 0) at0 rfl ?_)
  rw [if_neg (by simp)]
  refine wpAny_bind (listUpdate_at (xs := #[]) (n := 0) at0 rfl ?_ (Nat.zero_le _) (by show (#[] ++ items).size ≤ sizeLine + 1; simp only [Array.size_append, List.size_toArray, List.length_nil]; omega))
  refine wpAny_pure ?_
  refine wpAny_bind (wpAny_load (get?_update_seq at0 _) ?_)
  show wpAny _ _ (pure ((#[] : Array Value) ++ items).toList) Q E _
  rw [show ((#[] : Array Value) ++ items).toList = items.toList by simp]
  refine wpAny_pure (q _ (fun b u z => ?_) ?_)
  · rw [Heap.get?_update_ne _ _ _ _ (Nat.ne_of_lt (Heap.lt_size z))]
    exact kept b u z
  · rw [Heap.size_update, size_push']
    exact Nat.le_succ _
/-- sorted of a list or tuple that reads as data without lists in it -/
theorem sorted_seq {β : Type} {l : Addr} {o : Obj} {T : String} {items : Array Value} {n : Nat} {f : β → Value} {enc : β → PyData} {bs : List β} {Q : Value → Shared → Prop} (hT : T = "list" ∨ T = "tuple") (ho : s.heap.get? l = some o) (hc : o.cls = .type T)
    (hd : o.data = .seq items n) (hit : items.toList = bs.map f) (rd : ∀ b ∈ bs, Reads s.heap (f b) (enc b) []) (deep : ∀ b ∈ bs, (enc b).depth ≤ 60) (al : AllAlike (bs.map enc)) (so : Sortable (bs.map enc)) (hu : A.units + 64 < cLine) (sz : bs.length ≤ sizeLine)
    (q : ∀ (s' : Shared) (p : Addr) (c : Nat), (∀ b u, s.heap.get? b = some u → s'.heap.get? b = some u) → s'.gens = s.gens → s'.os = s.os → s.heap.objs.size ≤ p → s'.heap.get? p = some (seqObj "list" ((bs.mergeSort (dataLe false enc)).map f).toArray c) → Q (.ref p) s') :
    wpAny (model prog w) A (call (.builtin "sorted") [.ref l]) Q E s := by
  have len : items.size = bs.length := by rw [← Array.length_toList, hit, List.length_map]
  refine Calls.call_function_entry kind_sorted plain_sorted entry_sorted (args_sorted1 _) ?_
  unfold Builtin.«sorted»
  refine wpAny_bind (m := checkCount "sorted" 1 1 _) (wpAny_pure (wpAny_bind (gather hT ho hc hd (by rw [len]; exact sz) fun h1 k1 z1 => ?_)))
  rw [hit]
  refine wpAny_bind (wpAny_newList ?_ (by rw [List.length_map]; exact sz))
  have hL : (h1.push (seqObj "list" (bs.map f).toArray 0)).get? h1.objs.size = some (seqObj "list" (bs.map f).toArray 0) := Heap.get?_push_size _ rfl
  have rd1 : ∀ b ∈ bs, ∃ as, Reads (h1.push (seqObj "list" (bs.map f).toArray 0)) (f b) (enc b) as ∧ h1.objs.size ∉ as := fun b hb => ⟨[], PyProof.Rows.Reads.keeps (fun c u z => Heap.get?_push_of_some _ (k1 c u z)) (rd b hb), List.not_mem_nil⟩
  refine wpAny_bind (wpAny_holding (PySem.W.list_sort_data (s := { s with heap := h1.push (seqObj "list" (bs.map f).toArray 0) }) (enc := enc) (R := fun v b => v = f b) hL (each_self fun _ _ => rfl) (each_self rd1) al so sz
    (fun b hb => by have := deep b hb; simp only [Around.in1_units]; omega) fun out ln ei => ?_))
  have eo := each_eq (f := f) ei
  obtain ⟨c, hn⟩ := sortedHeap_at (vs := bs.map f) (out := out.toArray) hL
  rw [eo] at hn
  refine wpAny_pure ⟨_, rfl, q _ h1.objs.size c (fun b u z => ?_) rfl rfl z1 (by rw [eo]; exact hn)⟩
  have z2 := k1 b u z
  have lt := Heap.lt_size z2
  show (sortedHeap (h1.push _) h1.objs.size _ _).get? b = some u
  rw [sortedHeap_old (Nat.ne_of_lt lt) (by rw [size_push']; exact Nat.lt_succ_of_lt lt)]
  exact Heap.get?_push_of_some _ z2
end
section
variable {X : Cx}
/-! ### in of a tuple of data -/
def rInT (K : Frag) (neg : Bool) : R2 := fun x y H Q => ∃ d ds, Dp K H x d ∧ Dp K H y (.tuple ds) ∧ PyData.plainAll ds = true ∧ d.plain = true ∧ PyData.depthAll ds ≤ 60 ∧ Q (.bl (if neg then !(ds.any fun z => PyData.eqv z d) else ds.any fun z => PyData.eqv z d)) H
theorem op_inT (hu : X.A.units + 64 < cLine) : OpR X (compareOp .In) (rInT X.K false) := by
  intro pins s σ H x y v u Q I rx ry h
  obtain ⟨d, ds, hx, hy, p1, p2, dp, q⟩ := h
  obtain ⟨as, r1⟩ := Dp.reads I _ _ _ hx rx
  obtain ⟨bs, r2⟩ := Dp.reads I _ _ _ hy ry
  exact SeqAt.in_tuple_data r2 r1 p1 p2 (by omega) ⟨.bl _, H, I, rfl, q⟩
theorem op_notInT (hu : X.A.units + 64 < cLine) : OpR X (compareOp .NotIn) (rInT X.K true) := by
  intro pins s σ H x y v u Q I rx ry h
  obtain ⟨d, ds, hx, hy, p1, p2, dp, q⟩ := h
  obtain ⟨as, r1⟩ := Dp.reads I _ _ _ hx rx
  obtain ⟨bs, r2⟩ := Dp.reads I _ _ _ hy ry
  exact SeqAt.notIn_tuple_data r2 r1 p1 p2 (by omega) ⟨.bl _, H, I, rfl, q⟩
def rInL (K : Frag) (neg : Bool) : R2 := fun x y H Q => ∃ d ds, Dp K H x d ∧ Dp K H y (.list ds) ∧ PyData.plainAll ds = true ∧ d.plain = true ∧ PyData.depthAll ds ≤ 60 ∧ Q (.bl (if neg then !(ds.any fun z => PyData.eqv z d) else ds.any fun z => PyData.eqv z d)) H
theorem op_inL (hu : X.A.units + 64 < cLine) : OpR X (compareOp .In) (rInL X.K false) := by
  intro pins s σ H x y v u Q I rx ry h
  obtain ⟨d, ds, hx, hy, p1, p2, dp, q⟩ := h
  obtain ⟨as, r1⟩ := Dp.reads I _ _ _ hx rx
  obtain ⟨bs, r2⟩ := Dp.reads I _ _ _ hy ry
  exact SeqAt.in_list_data r2 r1 p1 p2 (by omega) ⟨.bl _, H, I, rfl, q⟩
theorem op_notInL (hu : X.A.units + 64 < cLine) : OpR X (compareOp .NotIn) (rInL X.K true) := by
  intro pins s σ H x y v u Q I rx ry h
  obtain ⟨d, ds, hx, hy, p1, p2, dp, q⟩ := h
  obtain ⟨as, r1⟩ := Dp.reads I _ _ _ hx rx
  obtain ⟨bs, r2⟩ := Dp.reads I _ _ _ hy ry
  exact SeqAt.notIn_list_data r2 r1 p1 p2 (by omega) ⟨.bl _, H, I, rfl, q⟩
/-! ### == and != of plain data -/
def rEqP (K : Frag) (neg : Bool) : R2 := fun x y H Q => ∃ d e, Dp K H x d ∧ Dp K H y e ∧ d.plain = true ∧ e.plain = true ∧ d.depth ≤ 60 ∧ Q (.bl (if neg then !PyData.eqv d e else PyData.eqv d e)) H
theorem op_eqP (hu : X.A.units + 64 < cLine) : OpR X (compareOp .Eq) (rEqP X.K false) := by
  intro pins s σ H x y v u Q I rx ry h
  obtain ⟨d, e, hx, hy, p1, p2, dp, q⟩ := h
  obtain ⟨as, r1⟩ := Dp.reads I _ _ _ hx rx
  obtain ⟨bs, r2⟩ := Dp.reads I _ _ _ hy ry
  exact SeqAt.eq_plain r1 r2 p1 p2 (by omega) ⟨.bl _, H, I, rfl, q⟩
theorem op_neP (hu : X.A.units + 64 < cLine) : OpR X (compareOp .NotEq) (rEqP X.K true) := by
  intro pins s σ H x y v u Q I rx ry h
  obtain ⟨d, e, hx, hy, p1, p2, dp, q⟩ := h
  obtain ⟨as, r1⟩ := Dp.reads I _ _ _ hx rx
  obtain ⟨bs, r2⟩ := Dp.reads I _ _ _ hy ry
  exact SeqAt.ne_plain r1 r2 p1 p2 (by omega) ⟨.bl _, H, I, rfl, q⟩
/-- sorted(a list or tuple of tuples that read as keys) -/
def rSortD (K : Frag) : List V → Hp → VK → Prop := fun xs H Q => ∃ (a : Addr) (ks : List (Addr × NestedKey)), xs = [.ref a] ∧ (SqL K H a (ks.map fun e => V.ref e.1) ∨ SqT K H a (ks.map fun e => V.ref e.1)) ∧ (∀ e ∈ ks, Dp K H (.ref e.1) e.2.data) ∧ (∀ e ∈ ks, e.2.data.depth ≤ 60) ∧
  AllAlike (ks.map fun e => e.2.data) ∧ Sortable (ks.map fun e => e.2.data) ∧ ks.length ≤ sizeLine ∧ ∀ p, H p = none → Q (.ref p) (upd H p (.lst ((ks.mergeSort keyLe).map fun e => V.ref e.1)))
theorem cr_sortD (hu : X.A.units + 64 < cLine) : CallR X (.builtin "sorted") (rSortD X.K) := by
  intro pins s σ H xs us Q I r h
  obtain ⟨a, ks, rfl, hl, hk, deep, al, so, sz, q⟩ := h
  rw [Vals.ref1 r]
  have rd : ∀ e ∈ ks, Reads s.heap (.ref e.1) e.2.data [] := fun e he => by
    obtain ⟨as, r⟩ := Dp.reads I _ _ (.ref e.1) (hk e he) rfl
    obtain ⟨rfl, _⟩ := nested_reads _ _ _ r
    exact r
  have fin : ∀ (s' : Shared) (p : Addr) (c : Nat), (∀ b u, s.heap.get? b = some u → s'.heap.get? b = some u) → s'.gens = s.gens → s'.os = s.os → s.heap.objs.size ≤ p → s'.heap.get? p = some (seqObj "list" ((ks.mergeSort (dataLe false fun e : Addr × NestedKey => e.2.data)).map fun e => Value.ref e.1).toArray c) → EP X pins σ Q (.ref p) s' := fun s' p c k g o hp hn => by
    have ln : ((ks.mergeSort keyLe).map fun e => V.ref e.1).length ≤ sizeLine := by
      rw [List.length_map, List.length_mergeSort]
      exact sz
    have J := I.call (g' := s'.gens) (t' := s'.toks) (d' := s'.drawn) (ch := []) (Un.laid k hp (I.hok.fresh hp)) (I.hok.laid (o := .lst ((ks.mergeSort keyLe).map fun e => V.ref e.1)) k hp ⟨ln, _, c, refs_vals _, hn⟩) (by rw [g]; exact I.bare) (fun _ z => nomatch z)
    obtain ⟨h1, g1, d1, t1, o1⟩ := s'
    obtain rfl : o1 = s.os := o
    exact ⟨.ref p, _, J, rfl, q p (I.hok.fresh hp)⟩
  rcases hl with hl | hl
  · obtain ⟨its, rv, ⟨o, n, ho, hc1, _, hd⟩, hz⟩ := I.list hl
    exact sorted_seq (T := "list") (.inl rfl) ho hc1 hd (by simpa using vals_refs rv) rd deep al so hu sz fin
  · obtain ⟨its, rv, ⟨o, ho, hc1, n, hd⟩, hz⟩ := I.tuple hl
    exact sorted_seq (T := "tuple") (.inr rfl) ho hc1 hd (by simpa using vals_refs rv) rd deep al so hu sz fin
/-! ### a class held by a local name, made -/
def tMakeL (i : Nat) (C : Addr) (sp : Sp) (dvs : List V) (E : XK) (t : TA) : TE := fun σ H Q => σ[i]? = some (some (.ref C)) ∧ tMake C sp dvs E t σ H Q
theorem pe_makeL {CX : CXT} {k i : Nat} {C f : Addr} {fd : FuncData} {ps : List Str} {sp : Sp} {dvs : List V} {ds : List Value} {E : XK} {x : Str} {p pos : Pos} {e : Expr} {es : List Expr} {t : TA} (M : Mk X.K C f) (F : FnOk X.prog X.w X.K X.mg X.base CX k f fd ps sp) (hr : Room (k + 1) X.A)
    (hN : X.N[i]? = some x) (hv : Vis X.env.scope x) (hb : Binds X.K fd ps ds) (hd : Vals dvs ds) (hx : Passes CX X E) (ha : PA X (e :: es) t) (hdb : (x == ("__debug__" : Str)) = false := by decide) (hcd : (x == ("__classdict__" : Str)) = false := by decide)
    (he : starEach (e :: es) X.env = (false, eval e X.env) :: starEach es X.env := by rfl) (hpl : (backTo pos (starEach es X.env)).any (·.1) = false := by rfl) : PE X (.Call (.Name x p) (e :: es) [] pos) (tMakeL i C sp dvs E t) := by
  refine ⟨fun pins s σ H Q I h => ?_⟩
  obtain ⟨hs, ht⟩ := h
  refine wpAny_Call_Name_kw (thn ((pe_var (pos := p) hN hv hdb hcd).run pins s σ H (fun v H1 => v = .ref C ∧ H1 = H) I ⟨.ref C, hs, rfl, rfl⟩) fun u s1 ⟨v, H1, I1, r1, q1⟩ => ?_)
  obtain ⟨rfl, rfl⟩ := q1
  cases r1
  refine PySem.W.callWith_K (h₀ := X.base) I.ok.mod.kin M.kp (thn (ha.run pos pins s1 σ _ _ I1 ht) fun us s2 ⟨vs, H2, I2, r, q⟩ => ⟨I2.kIn, ?_⟩) he hpl
  exact run_make M F hr hb hd hx I2 r q
end
end KD
set_option Elab.async false
set_option linter.all false
set_option maxRecDepth 100000
set_option maxHeartbeats 4000000
namespace KD
open PySem PySem.Spec PyProof.Rows L2
/-! ### () times a number -/
theorem tuple_mulE (l : Addr) (n : Nat) (dd : Option Addr) (sl : Array (Option Value)) (x : Int) (u : Tok) (c0 : (decide (x < -(2 ^ 63)) || decide (x ≥ 2 ^ 63)) = false) :
    Meets (Builtin.«tuple.__mul__» ⟨[.ref l, .int x u], []⟩) (fun _ R s => s.heap.get? l = some { cls := .type "tuple", dict := dd, data := .seq #[] n, slots := sl } ∧
      R (.ok (.ret (Value.ref l))) s) :=
  .of_wp fun prog w A R s h => by
    obtain ⟨hp, g, d, tk, os⟩ := s
    obtain ⟨hl, h⟩ := h
    have f1 := AutoSeq1.idx_int
    wp_walk using wpAny_loadPart' hl
    repeat (first
      | (refine wpAny_ite_false (decide_eq_false (by rw [c0]; exact Bool.false_ne_true)) ?_; wp_walk using wpAny_loadPart' hl)
      | (refine wpAny_ite_true (by rfl) ?_; wp_walk using wpAny_loadPart' hl)
      | (refine wpAny_ite_true (decide_eq_true (by rfl)) ?_; wp_walk using wpAny_loadPart' hl))
    exact ⟨_, rfl, h⟩
theorem op_repE {X : Cx} {pins : List (Addr × Obj)} {s : Shared} {σ : L2.St} {H : Hp} {v u : Value} {l : Addr} {k : Int} {Q : VK} (I : Inv X pins σ H s) (rx : RelV (.ref l) v) (ry : RelV (.int k) u) (hT : SqT X.K H l []) (h1 : 0 ≤ k) (h2 : k ≤ 1000) (q : Q (.ref l) H) :
    wpAny (model X.prog X.w) X.A (binaryOp .Mult v u) (EP X pins σ Q) X.xe s := by
  cases rx
  obtain ⟨t, rfl⟩ := ry
  obtain ⟨its, r, ⟨⟨cls, dd, data, sl⟩, ho, hc, n, hd⟩, hs⟩ := I.tuple hT
  cases r
  simp only at hc hd
  subst hc hd
  have c0 : (decide (k < -(2 ^ 63)) || decide (k ≥ 2 ^ 63)) = false := by
    rw [decide_eq_false (by omega), decide_eq_false (by omega)] <;> rfl
  exact wpAny_binaryOp_repeat_ref (T := "tuple") (U := "int") (by decide) ⟨_, ho, rfl⟩ (fun s' => typeIs_int s' k t) noFill_tuple_mul F.fills_int_mul F.slot_int_rmul repeat_tuple F.slot_int_index.lookup
    (call_meets F.slot_int_rmul (typeIs_int s k t) F.entry_int_rmul (F.args_int_rmul_2 _ _) (int_rmul_tuple k t l #[] n dd sl)
      ⟨ho, rfl, ⟨_, ho, rfl⟩, call_meets F.slot_tuple_mul ⟨_, ho, rfl⟩ F.entry_tuple_mul (F.args_tuple_mul_2 _ _) (tuple_mulE l n dd sl k t c0) ⟨ho, .ref l, H, I, rfl, q⟩⟩)
def rTwice (K : PySem.W.Frag) : R2 := fun x y H Q => ∃ l xs, x = .ref l ∧ y = .int 2 ∧ SqT K H l xs ∧ xs.length ≤ 1000 ∧ (xs = [] → Q (.ref l) H) ∧ (xs ≠ [] → ∀ p, H p = none → Q (.ref p) (upd H p (.tup (xs ++ xs))))
theorem op_twice {X : Cx} : OpR X (binaryOp .Mult) (rTwice X.K) := by
  intro pins s σ H x y v u Q I rx ry h
  obtain ⟨l, xs, rfl, rfl, hT, hz, q1, q2⟩ := h
  by_cases e : xs = []
  · subst e
    exact op_repE I rx ry hT (by decide) (by decide) (q1 rfl)
  · exact op_repT pins s σ H _ _ v u Q I rx ry ⟨l, 2, xs, rfl, rfl, hT, e, by decide, by decide, hz, fun p np => by
      have z := q2 e p np
      have e2 : (List.replicate (2 : Int).toNat xs).flatten = xs ++ xs := by simp [List.replicate]
      rw [e2]
      exact z⟩
end KD
set_option Elab.async false
set_option linter.all false
set_option maxRecDepth 100000
set_option maxHeartbeats 4000000
namespace KD
open PySem PySem.Spec PyProof.Rows L2 ClX
section
variable {X : Cx} {CX : CXT} {k : Nat} {C p g : Addr} {mc : Value} {sp : Sp} {E : XK} {o : Expr} {m : Str} {pos apos : Pos} {ta : TE} {pl : Sem Bool}
/-- e.m(), e the class at C, m a classmethod -/
theorem pe_cmeth0 (he : PE X o ta) (r : CRead X.K C mc) (c : CMet X.K C mc m p g) (F : FnR X.prog X.w X.K X.mg X.base CX k g sp) (hr : Room k X.A) (hx : Passes CX X E)
    (ht : eval (.Call (.Attribute o m apos) [] [] pos) X.env = (do
      let ov ← eval o X.env
      standAt apos.atName
      let (f, first) ← holding [ov] (getMethod ov m pl)
      callWith pos f first (backTo pos (starEach [] X.env)) (backToKw pos (keywordEach [] X.env))) := by rfl) :
    PE X (.Call (.Attribute o m apos) [] [] pos) (tCMeth C sp E ta tNil) := by
  refine ⟨fun pins s σ H Q I h => ?_⟩
  refine PySem.W.methodCall_KW (pl := pl) (thn (he.run pins s σ H _ I h) fun u s1 ⟨x, H1, I1, rx, ex, q⟩ => ?_) ht
  subst ex
  obtain rfl : u = Value.ref C := rx
  refine getmethcm_ok I1 r c fun s2 I2 => ?_
  exact PySem.W.callWith_M0 (K := X.K) ⟨pin_at I2, I2.kIn⟩ c.fi (run_cm F hr hx I2 .nil q)
end
end KD
set_option Elab.async false
set_option linter.all false
set_option maxRecDepth 100000
set_option maxHeartbeats 4000000
namespace GT
open PySem PySem.Spec PyProof.Rows L2 CG LamX
/-! ### the law's call from the head: a promise of the G kind, tables of code objects -/
def startHp (K : PySem.W.Frag) (a : Addr) (vs : List Value) (ns : List Int) (tb : List Addr) : Hp := fun b =>
  if b ∈ tb then some (.tbl #[]) else scriptHp K a vs ns b
theorem lawGT {P : Program} {w : World} {K : PySem.W.Frag} {mg mb : Str → Option Value} {k : Nat} {fa a : Addr} {cs : List (Addr × Addr)} {fd : FuncData} {x : Str} {sp : Sp}
    {s₁ : Shared} {vs : List Value} {ns : List Int} (inK : K.In s₁.heap) (g : s₁.heap.Ns mainGlobals mg) (bl : s₁.heap.Ns builtinsNs mb)
    (bt : ∀ x : Str, x ≠ "__name__" → mb x = bootBuiltins x) (nl : s₁.heap.NoLimit) (gens : s₁.gens = #[])
    (hT : ∀ p ∈ cs, s₁.heap.get? p.2 = some { cls := .none, data := .fields #[] }) (nT : ∀ p ∈ cs, K.lookup p.2 = none) (C : ∀ p ∈ cs, PySem.W.CodeHd s₁.heap p.1 p.2)
    (hbm : ∃ (bm : Addr) (ob : Obj), mg "__builtins__" = some (.ref bm) ∧ bm ≠ builtinsNs ∧ s₁.heap.get? bm = some ob ∧ ob.cls = .type "module" ∧ ob.dict = some builtinsNs ∧ ob.data = .plain)
    (obj : s₁.heap.get? a = some { cls := .type "list", data := .seq vs.toArray }) (hInts : IntsAre vs ns) (short : ns.length ≤ sizeLine) (room : Room k callerA)
    (F : ∀ base : Heap, K.In base → base.Ns mainGlobals mg → (∀ p ∈ cs, TabB base mg p.1 p.2) → FnG P w K mg base CX0 k fa fd [x] sp)
    (bnd : ∀ (s : Shared) (u : Value), BindsTo s fd ⟨[u], []⟩ [(x, u)])
    (want : ∀ H : Hp, (∀ p ∈ cs, H p.2 = some (.tbl #[])) → SqL K H a (ns.map V.int) → sp [.ref a] H (fun v _ => v = .bl true) E0) :
    codeAny (model P w) callerA (.call (.ref fa) ⟨[.ref a], []⟩)
      (fun r s' => r = .ok (.ret (.bool true)) ∧ OldK s₁.heap s'.heap ∧ s'.os = s₁.os ∧ AllBare s'.gens) s₁ := by
  have many := hInts.length
  obtain ⟨tb, etb⟩ : ∃ tb, tb = cs.map (·.2) := ⟨_, rfl⟩
  have inTb : ∀ p ∈ cs, p.2 ∈ tb := fun p hp => by rw [etb]; exact List.mem_map.mpr ⟨p, hp, rfl⟩
  have isT : ∀ b ∈ tb, s₁.heap.get? b = some { cls := .none, data := .fields #[] } := fun b hb => by
    rw [etb] at hb
    obtain ⟨p, hp, rfl⟩ := List.mem_map.mp hb
    exact hT p hp
  have noT : ∀ b ∈ tb, K.lookup b = none := fun b hb => by
    rw [etb] at hb
    obtain ⟨p, hp, rfl⟩ := List.mem_map.mp hb
    exact nT p hp
  have aT : a ∉ tb := fun z => by
    have q := isT a z
    rw [obj] at q
    cases q
  generalize hH : startHp K a vs ns tb = H
  have cases_ : ∀ {b : Addr} {u : HO}, H b = some u → (b ∈ tb ∧ u = .tbl #[]) ∨ (b ∉ tb ∧ b = a ∧ K.lookup a = none ∧ u = .frz { cls := .type "list", data := .seq vs.toArray } (.lst (ns.map V.int))) := fun {b u} e => by
    rw [← hH] at e
    unfold startHp at e
    split at e
    · rename_i z
      cases e
      exact .inl ⟨z, rfl⟩
    · rename_i z
      exact .inr ⟨z, scriptHp_some e⟩
  have tbs : ∀ p ∈ cs, H p.2 = some (.tbl #[]) := fun p hp => by
    rw [← hH]
    exact if_pos (inTb p hp)
  have sees : SqL K H a (ns.map V.int) := by
    cases e : K.lookup a with
    | none => exact .inl (.inr ⟨_, by rw [← hH]; exact (if_neg aT).trans (if_pos ⟨rfl, e⟩)⟩)
    | some o =>
      have z := inK a o e
      rw [obj] at z
      cases z
      exact .inr ⟨_, vs.toArray, _, e, rfl, rfl, rfl, by rw [List.size_toArray, many]; exact short, by simpa using vals_ints hInts⟩
  have ok : HOk P w H s₁.heap := by
    intro b u e
    rcases cases_ e with ⟨hb, rfl⟩ | ⟨_, rfl, _, rfl⟩
    · exact isT b hb
    · exact ⟨obj, by rw [List.length_map]; exact short, vs, _, vals_ints hInts, obj⟩
  have hid : ∀ {b : Addr} {o : Obj}, s₁.heap.get? b = some o → (∀ u, H b = some u → False) → (hidT s₁.heap H).get? b = some o := by
    intro b o e n
    refine hidT_get e ?_
    cases q : H b with
    | none => rfl
    | some u => exact (n u q).elim
  -- what is neither a list nor an empty table is not hidden
  have free : ∀ {b : Addr} {o : Obj}, s₁.heap.get? b = some o → (∀ vs n, o.data ≠ .seq vs n) → o.data ≠ .fields #[] → (hidT s₁.heap H).get? b = some o := fun {b o} e h1 h2 => hid e fun u q => by
    rcases cases_ q with ⟨hb, _⟩ | ⟨_, rfl, _, _⟩
    · rw [isT b hb] at e
      cases e
      exact h2 rfl
    · rw [obj] at e
      cases e
      exact h1 _ _ rfl
  have hidNs : ∀ {b : Addr} {m : Str → Option Value}, s₁.heap.Ns b m → (hidT s₁.heap H).Ns b m := by
    rintro b m ⟨o, es, ep, e, d, r⟩
    exact ⟨o, es, ep, free e (fun vs n z => by rw [d] at z; cases z) (fun z => by rw [d] at z; cases z), d, r⟩
  have hidK : K.In (hidT s₁.heap H) := by
    intro b o e
    refine hid (inK b o e) fun u q => ?_
    rcases cases_ q with ⟨hb, _⟩ | ⟨_, rfl, z, _⟩
    · rw [noT b hb] at e
      cases e
    · rw [z] at e
      cases e
  have TB : ∀ p ∈ cs, TabB (hidT s₁.heap H) mg p.1 p.2 := fun p hp => by
    have hTp := hT p hp
    refine ⟨?_, ?_, fun z => ?_⟩
    · obtain ⟨o, us, file, tf, flags, tg, inF, text, tt, e1, r1, r2, r3, rest⟩ := C p hp
      refine ⟨o, us, file, tf, flags, tg, inF, text, tt, free e1 (fun vs n z => ?_) (fun z => ?_), r1, r2, r3, rest⟩
      · rw [r2] at z
        cases z
      · rw [r2] at z
        cases z
        simp at r3
    · obtain ⟨bm, ob, b1, b2, b3, b4, b5, b6⟩ := hbm
      refine ⟨bm, ob, b1, b2, fun q => ?_, fun q => ?_, free b3 (fun vs n z => ?_) (fun z => ?_), b4, b5, b6⟩
      · obtain ⟨o, es, ep, e, hd, _⟩ := g
        rw [q, e] at b3
        cases b3
        rw [hd] at b6
        cases b6
      · rw [q, hTp] at b3
        cases b3
        cases b6
      · rw [b6] at z
        cases z
      · rw [b6] at z
        cases z
    · obtain ⟨o, es, ep, e, hd, _⟩ := g
      rw [z, hTp] at e
      cases e
      cases hd
  have env : Env0 P w K mg (hidT s₁.heap H) callerA [] s₁ H := {
    frames := rfl
    mod := ⟨hidK, hidNs g, ⟨mb, hidNs bl, bt⟩, by obtain ⟨mc, h1, h2⟩ := nl; exact ⟨mc, hidNs h1, h2⟩⟩
    bs := fun b o e => of_hidT e
    bsz := Nat.le_of_eq (hidT_size _ _)
    funs := trivial
    frf := fun b z => by cases z
    hok := ok
    bare := .of_eq gens }
  refine codeAny_mono ((F _ hidK (hidNs g) TB).run callerA [] s₁ H _ [.ref a] [.ref a] _ _ room rfl env (bnd s₁ (.ref a)) (.cons rfl .nil) (want H tbs sees)) ?_
  intro r s' h
  match r, h with
  | .ok (.ret u), ⟨v, H', os, bare, un, ok', rel, q⟩ =>
    have q' : v = .bl true := q
    subst q'
    have rel' : u = Value.bool true := rel
    subst rel'
    have key : ∀ b o, b ∉ tb → s₁.heap.get? b = some o → s'.heap.get? b = some o := fun b o nb e => by
      cases q : H b with
      | none => exact un.keep b o e q (by intro z; cases z) (by intro z; cases z)
      | some u =>
        have q0 := q
        rcases cases_ q with ⟨z, _⟩ | ⟨_, rfl, _, rfl⟩
        · exact absurd z nb
        · obtain ⟨e2, _⟩ := ok' b _ (un.frzs b _ _ q0)
          rw [obj] at e
          cases e
          exact e2
    have grown : ∀ p ∈ cs, ∃ more : Array Value, s'.heap.get? p.2 = some { cls := .none, data := .fields more } := fun p hp => by
      obtain ⟨more, z⟩ := un.tbls p.2 #[] (tbs p hp)
      exact ⟨_, ok' p.2 _ z⟩
    refine ⟨rfl, ⟨fun b o e => ?_, fun b o e => ?_⟩, os, bare⟩
    · by_cases hb : b ∈ tb
      · rw [etb] at hb
        obtain ⟨p, hp, rfl⟩ := List.mem_map.mp hb
        obtain ⟨more, hm⟩ := grown p hp
        rw [hT p hp] at e
        cases e
        exact .inr (.inl ⟨((C p hp).tab (hT p hp)).isCodeTable, rfl, #[], more, rfl, by rw [Array.empty_append]; exact hm⟩)
      · exact .inl (key b o hb e)
    · by_cases hb : b ∈ tb
      · rw [etb] at hb
        obtain ⟨p, hp, rfl⟩ := List.mem_map.mp hb
        obtain ⟨more, hm⟩ := grown p hp
        exact ⟨_, hm⟩
      · exact ⟨o, key b o hb e⟩
theorem walkGT {l : PySem.W.OpenLaw} {n k : Nat} {q : Program} {loose : List Str} {XP : (Str → Option Value) → Heap → Prop} {YP : World → Heap → Prop} {d : DefRec} {K : Params → PySem.W.Frag} {x : Str}
    (hn : l.most = some n) (hn2 : n ≤ sizeLine) (hdf : d.params.defaults = []) (room : Room k callerA) {ts : List Addr} (hY : ∀ (w : World) (h : Heap), YP w h → (K w.params).In h ∧ ∀ p ∈ ts, h.get? p = some (PySem.W.tabObj #[]))
    (F : ∀ (w : World) (mg : Str → Option Value) (fa : Addr) (h : Heap), (K w.params).In h → (∀ p ∈ ts, h.get? p = some (PySem.W.tabObj #[])) → h.Ns mainGlobals mg → mg d.name = some (.ref fa) →
      ∃ (K' : PySem.W.Frag) (fd : FuncData) (cs : List (Addr × Addr)) (sp : Sp), K'.In h ∧ (∀ p ∈ cs, h.get? p.2 = some { cls := .none, data := .fields #[] }) ∧ (∀ p ∈ cs, K'.lookup p.2 = none) ∧ (∀ p ∈ cs, PySem.W.CodeHd h p.1 p.2) ∧
        (∀ (s : Shared) (u : Value), BindsTo s fd ⟨[u], []⟩ [(x, u)]) ∧
        (∀ (H : Hp) (a : Addr) (ns : List Int), ns.length ≤ n → (∀ p ∈ cs, H p.2 = some (.tbl #[])) → SqL K' H a (ns.map V.int) → sp [.ref a] H (fun v _ => v = .bl true) E0) ∧
        ∀ base : Heap, K'.In base → base.Ns mainGlobals mg → (∀ p ∈ cs, TabB base mg p.1 p.2) → FnG l.prog w K' mg base CX0 k fa fd [x] sp) :
    PySem.W.WalkO q loose XP YP l.row.toRowW d [] (fun f vs => PySem.call f vs) := by
  refine Att.attach_call hn hdf ?_
  intro w s₀ s₁ mg mb fa o pm cd doc a vs ns G Y ho hd hcd hmg hobj hints hlen hg
  obtain ⟨K', fd, cs, sp, KX, hT, nT, C, hb, hsp, hF⟩ := F w mg fa _ (hY w _ Y).1 (hY w _ Y).2 G.T.g hmg
  exact lawGT KX G.T.g G.T.b G.T.builtins G.T.nolimit hg hT nT C G.T.bmain hobj hints (Nat.le_trans hlen hn2) room hF hb fun H z1 z2 => hsp H a ns hlen z1 z2
end GT
set_option Elab.async false
set_option linter.all false
set_option maxRecDepth 100000
set_option maxHeartbeats 2000000
namespace LR
open PySem L2 CG
/-! ### the text by places -/
def top (i : Nat) : Stmt := PySem.Challenge.pw_chosentrees_k32_filters_made_and_combine.main.body.getD i (.Pass ⟨0, 0, 0, 0⟩)
def inCls (i j : Nat) : Stmt := match top i with
  | .ClassDef _ _ _ body _ _ _ _ _ _ _ => body.getD j (.Pass ⟨0, 0, 0, 0⟩)
  | _ => .Pass ⟨0, 0, 0, 0⟩
abbrev sSmall : Stmt := top 9
abbrev sWord : Stmt := top 10
abbrev sName : Stmt := top 11
abbrev sInteger : Stmt := top 15
abbrev sIndex : Stmt := top 16
abbrev sBarOf : Stmt := top 18
abbrev sIsBar : Stmt := top 23
abbrev sDice : Stmt := top 26
abbrev sRoll : Stmt := top 27
abbrev sPick : Stmt := top 28
abbrev sSome : Stmt := top 29
abbrev sIsBarL : Stmt := top 30
abbrev sBar : Stmt := top 31
abbrev sBent : Stmt := top 32
abbrev sMade : Stmt := top 33
abbrev sDue : Stmt := top 34
abbrev sToldR : Stmt := top 35
abbrev sWordL : Stmt := top 36
abbrev sPair : Stmt := top 37
abbrev sRight : Stmt := top 38
abbrev sLaw : Stmt := top 39
abbrev mInit : Stmt := inCls 24 0
abbrev mChildren : Stmt := inCls 24 1
abbrev mBars : Stmt := inCls 24 2
abbrev mPart : Stmt := inCls 24 3
abbrev mContains : Stmt := inCls 24 9
abbrev mLen : Stmt := inCls 24 11
abbrev mBool : Stmt := inCls 24 12
abbrev mEq : Stmt := inCls 24 13
abbrev mStr : Stmt := inCls 24 14
abbrev mOr : Stmt := inCls 24 15
abbrev mAnd : Stmt := inCls 24 16
abbrev mSub : Stmt := inCls 24 17
/-! ### dice: a list of three numbers -/
def DiceAt (H : Hp) (d : Addr) : Prop := ∃ a b c : Int, H d = some (.lst [.int a, .int b, .int c])
/-- all but what stands at d is as it was -/
def But (d : Addr) (H H' : Hp) : Prop := ∀ b, b ≠ d → H' b = H b
theorem But.trans {d : Addr} {H H1 H2 : Hp} (a : But d H H1) (b : But d H1 H2) : But d H H2 := fun c n => (b c n).trans (a c n)
def spDice (K : PySem.W.Frag) : Sp := fun vs H Q _ => ∃ (s : Addr) (ns : List Int) (k : Nat), vs = [.ref s, .int k] ∧ SqL K H s (ns.map V.int) ∧
  ∀ p a b, H p = none → Q (.ref p) (upd H p (.lst [.int a, .int b, .int 0]))
def spRoll : Sp := fun vs H Q _ => ∃ (d : Addr) (n : Int), vs = [.ref d, .int n] ∧ DiceAt H d ∧ 0 < n ∧ n < 1073741824 ∧
  ∀ r H', 0 ≤ r → r < n → DiceAt H' d → But d H H' → Q (.int r) H'
def spPick : Sp := fun vs H Q _ => ∃ (d l : Addr) (xs : List V), vs = [.ref d, .ref l] ∧ DiceAt H d ∧ H l = some (.lst xs) ∧ l ≠ d ∧ 0 < xs.length ∧ xs.length < 1000 ∧
  ∀ v H', v ∈ xs → DiceAt H' d → But d H H' → Q v H'
/-- built-in names that the module does not hide -/
structure Blt (mg : Str → Option Value) : Prop where
  len : mg "len" = none
  int : mg "int" = none
  abs : mg "abs" = none
  max : mg "max" = none
section
variable {P : Program} {w : World} {K : PySem.W.Frag} {mg : Str → Option Value} {base : Heap}
theorem scD : FnScope ["_law_script", "_law_spot", "_law_cell", "_law_great", "_law_blend"] ["_law_script", "_law_spot"] (defScope sDice) :=
  ⟨rfl, rfl, rfl, by decide +kernel, rfl, by decide +kernel, by decide +kernel⟩
theorem big58 : (0 : Int) ≤ 10 ∧ (Builtin.Int.intBits ((10 : Int) ^ (58 : Int).toNat) : Int) * 10 ≤ 2 ^ 27 := ⟨by decide, by decide +kernel⟩
theorem pos580 : (0 : Int) < ((10 : Int) ^ (58 : Int).toNat) ^ (10 : Int).toNat := by decide +kernel
theorem below (g : Int) : -(2 ^ 64) < g % 2305843009213693907 ∧ g % 2305843009213693907 < 2 ^ 64 := by
  have a := Int.emod_nonneg g (b := 2305843009213693907) (by decide)
  have b := Int.emod_lt_of_pos g (b := 2305843009213693907) (by decide)
  omega
theorem ok_dice {f : Addr} {fd : FuncData} (F : Fun K "_law_dice" "_law_dice" sDice f fd) (T : Blt mg) :
    FnOk P w K mg base CX0 1 f fd ["_law_script", "_law_spot"] (spDice K) := by
  refine F.ok scD (fun vs H Q E h => ?_) (fun cdv A outer s H vs Q E hr h => ?_)
  · obtain ⟨s, ns, k, rfl, _⟩ := h
    rfl
  · obtain ⟨s, ns, k, rfl, hS, q⟩ := h
    refine ⟨_, pss_cons (ps_set (i := 2) scD.nd rfl (Or.inl rfl) (pe_ifExp
          (pt_cmpR op_lt (pv 1) (pe_callB call_len (by rfl) T.len PySem.boot_len (pa_cons (pv 0) pa_nil)) (nomark _))
          (pe_ix ix_list (pv 0) (pv 1) (fun _ _ => rfl)) (pe_op op_add (pe_op op_mul pe_int (pv 1)) pe_int)))
      (pss_cons (ps_set (i := 3) scD.nd rfl (Or.inl rfl) (pe_op op_mod
          (pe_callTy call_int1 (by rfl) T.int PyProof.Rows.boot_int (pa_cons (pe_callB call_abs (by rfl) T.abs PyProof.Rows.boot_abs (pa_cons (pv 2) pa_nil)) pa_nil))
          (pe_op op_powB (pe_op op_pow pe_int pe_int) pe_int)))
      (pss_cons (ps_set (i := 4) scD.nd rfl (Or.inl rfl) (pe_op op_add (pe_op op_add (pe_op op_add
          (pe_op op_mul (pe_op op_mod (pe_callTy call_int1 (by rfl) T.int PyProof.Rows.boot_int (pa_cons (pv 3) pa_nil)) pe_int) pe_int)
          (pe_op op_mul pe_int (pv 1)))
          (pe_op op_mul pe_int (pe_callTy call_int1 (by rfl) T.int PyProof.Rows.boot_int (pa_cons (pe_cmpR op_lt (pv 2) pe_int (nomark _)) pa_nil)))) pe_int))
      (pss_one (ps_ret (pe_lst (pa_cons (pe_callB (call_max2 rfl) (by rfl) T.max PyProof.Rows.boot_max
          (pa_cons pe_int (pa_cons (pe_op op_sub (pv 3) (pe_op op_pow pe_int pe_int)) pa_nil)))
        (pa_cons (pe_op op_mod (pe_callTy call_int1 (by rfl) T.int PyProof.Rows.boot_int (pa_cons (pv 4) pa_nil)) pe_int) (pa_cons pe_int pa_nil)))))))), ?_⟩
    refine ⟨_, rfl, _, rfl, .ref s, _, rfl, .inl ⟨_, hS, rfl⟩, _, _, rfl, rfl, _, rfl, ?_⟩
    refine ite2 (fun hlt => ?_) (fun _ => ?_)
    rotate_left
    · refine ⟨_, rfl, _, _, rfl, rfl, .inl (by decide), _, _, rfl, rfl, ?_⟩
      refine ⟨_, rfl, _, rfl, .inl ⟨_, rfl, _, _, rfl, rfl, ⟨by decide, by decide, by decide⟩, _, _, rfl, rfl, big58, _, _, rfl, rfl, pos580, ?_⟩⟩
      refine ⟨_, rfl, .inl ⟨_, rfl, _, _, rfl, rfl, (show (0 : Int) < 2305843009213693907 by decide), _, _, rfl, rfl, .inl (below _), _, rfl, _, _, rfl, rfl, .inl (by decide), _, _, rfl, rfl,
        _, rfl, _, _, rfl, rfl, .inr ⟨_, rfl, _, _, rfl, rfl, .inl (by decide), _, _, rfl, rfl, _, _, rfl, rfl, ?_⟩⟩⟩
      refine ⟨_, rfl, _, _, rfl, rfl, ⟨by decide, by decide, by decide⟩, _, _, rfl, rfl, _, _, rfl, _, rfl, .inl ⟨_, rfl, _, _, rfl, rfl, (show (0 : Int) < 2305843009213693921 by decide),
        (by show 3 ≤ sizeLine; decide), fun p hp => q p _ _ hp⟩⟩
    · rw [List.length_map] at hlt
      have hk : k < ns.length := by exact_mod_cast (of_decide_eq_true hlt)
      refine ⟨_, rfl, _, rfl, s, _, _, _, rfl, rfl, hS, atI_nat (v := .int ns[k]) (by simp [hk]), ?_⟩
      refine ⟨_, rfl, _, rfl, .inl ⟨_, rfl, _, _, rfl, rfl, ⟨by decide, by decide, by decide⟩, _, _, rfl, rfl, big58, _, _, rfl, rfl, pos580, ?_⟩⟩
      refine ⟨_, rfl, .inl ⟨_, rfl, _, _, rfl, rfl, (show (0 : Int) < 2305843009213693907 by decide), _, _, rfl, rfl, .inl (below _), _, rfl, _, _, rfl, rfl, .inl (by decide), _, _, rfl, rfl,
        _, rfl, _, _, rfl, rfl, .inr ⟨_, rfl, _, _, rfl, rfl, .inl (by decide), _, _, rfl, rfl, _, _, rfl, rfl, ?_⟩⟩⟩
      refine ⟨_, rfl, _, _, rfl, rfl, ⟨by decide, by decide, by decide⟩, _, _, rfl, rfl, _, _, rfl, _, rfl, .inl ⟨_, rfl, _, _, rfl, rfl, (show (0 : Int) < 2305843009213693921 by decide),
        (by show 3 ≤ sizeLine; decide), fun p hp => q p _ _ hp⟩⟩
end

section
variable {P : Program} {w : World} {K : PySem.W.Frag} {mg : Str → Option Value} {base : Heap}
theorem scR : FnScope ["_law_dice_here", "_law_total", "_law_found", "_law_one", "_law_two"] ["_law_dice_here", "_law_total"] (defScope sRoll) :=
  ⟨rfl, rfl, rfl, by decide +kernel, rfl, by decide +kernel, by decide +kernel⟩
theorem under {g j b : Int} (hj : 0 < j) (hb : j ≤ b) (hb2 : b ≤ 2 ^ 64) : -(2 ^ 64) < g % j ∧ g % j < 2 ^ 64 := by
  have a := Int.emod_nonneg g (b := j) (by omega)
  have b := Int.emod_lt_of_pos g (b := j) hj
  omega
theorem ok_roll {f : Addr} {fd : FuncData} (F : Fun K "_law_roll" "_law_roll" sRoll f fd) (T : Blt mg) :
    FnOk P w K mg base CX0 1 f fd ["_law_dice_here", "_law_total"] spRoll := by
  refine F.ok scR (fun vs H Q E h => ?_) (fun cdv A outer s H vs Q E hr h => ?_)
  · obtain ⟨d, n, rfl, _⟩ := h
    rfl
  · obtain ⟨d, n, rfl, ⟨a, b, c, hd⟩, n0, n1, q⟩ := h
    refine ⟨_, pss_cons (ps_if (pt_cmpR op_gt (pe_ix ix_list (pv 0) pe_int (fun _ _ => rfl)) pe_int (nomark _))
        (pss_cons (ps_set (i := 2) scR.nd rfl (Or.inl rfl) (pe_op op_mod (pe_callTy call_int1 (by rfl) T.int PyProof.Rows.boot_int (pa_cons (pe_ix ix_list (pv 0) pe_int (fun _ _ => rfl)) pa_nil)) (pv 1)))
        (pss_cons (ps_asg (pe_op op_fdiv (pe_ix ix_list (pv 0) pe_int (fun _ _ => rfl)) (pv 1)) (pg_sub (pv 0) pe_int set_list))
        (pss_one (ps_ret (pv 2))))) pss_nil)
      (pss_cons (ps_asg (pe_op op_add (pe_ix ix_list (pv 0) pe_int (fun _ _ => rfl)) pe_int) (pg_sub (pv 0) pe_int set_list))
      (pss_cons (ps_set (i := 3) scR.nd rfl (Or.inl rfl) (pe_op op_mod (pe_callTy call_int1 (by rfl) T.int PyProof.Rows.boot_int (pa_cons
        (pe_op op_add (pe_ix ix_list (pv 0) pe_int (fun _ _ => rfl)) (pe_op op_mul pe_int (pe_ix ix_list (pv 0) pe_int (fun _ _ => rfl)))) pa_nil)) pe_int))
      (pss_cons (ps_set (i := 4) scR.nd rfl (Or.inl rfl) (pe_op op_add (pe_op op_mul (pe_op op_mod (pe_callTy call_int1 (by rfl) T.int PyProof.Rows.boot_int (pa_cons
        (pe_op op_mul (pv 3) (pv 3)) pa_nil)) pe_int) (pv 3)) (pe_op op_mul pe_int (pe_ix ix_list (pv 0) pe_int (fun _ _ => rfl)))))
      (pss_one (ps_ret (pe_op op_mod (pe_callTy call_int1 (by rfl) T.int PyProof.Rows.boot_int (pa_cons
        (pe_op op_fdiv (pe_op op_mod (pe_callTy call_int1 (by rfl) T.int PyProof.Rows.boot_int (pa_cons
          (pe_op op_add (pv 4) (pe_ix ix_list (pv 0) pe_int (fun _ _ => rfl))) pa_nil)) pe_int) pe_int) pa_nil)) (pv 1))))))), ?_⟩
    refine ⟨_, rfl, d, _, _, _, rfl, rfl, SqL.of hd, (by rfl), _, _, rfl, rfl, _, rfl, ?_⟩
    refine ite2 (fun _ => ?_) (fun _ => ?_)
    · -- the digits of the great number
      refine ⟨_, rfl, d, _, _, _, rfl, rfl, SqL.of hd, (by rfl), .inl ⟨_, rfl, _, rfl, _, _, rfl, rfl, n0, ?_⟩⟩
      refine ⟨_, rfl, d, _, _, _, rfl, rfl, SqL.of hd, (by rfl), _, rfl, _, _, rfl, rfl, ⟨n0, n1⟩, ?_⟩
      refine ⟨_, rfl, d, _, _, 0, rfl, rfl, hd, (by rfl), ?_⟩
      refine ⟨_, rfl, ?_⟩
      exact q _ _ (Int.emod_nonneg _ (by omega)) (Int.emod_lt_of_pos _ n0) ⟨_, _, _, upd_same⟩ fun b hb => upd_ne hb
    · -- mixed numbers
      refine ⟨_, rfl, d, _, _, _, rfl, rfl, SqL.of hd, (by rfl), _, _, rfl, rfl, ?_⟩
      refine ⟨_, rfl, d, _, _, 2, rfl, rfl, hd, (by rfl), ?_⟩
      have hd2 : (upd H d (.lst [.int a, .int b, .int (c + 1)])) d = some (.lst [.int a, .int b, .int (c + 1)]) := upd_same
      refine ⟨_, rfl, d, _, _, _, rfl, rfl, SqL.of hd2, (by rfl), _, rfl, d, _, _, _, rfl, rfl, SqL.of hd2, (by rfl), _, _, rfl, rfl, .inl (by decide), _, _, rfl, rfl,
        .inl ⟨_, rfl, _, _, rfl, rfl, (show (0 : Int) < 2305843009213693951 by decide), ?_⟩⟩
      refine ⟨_, rfl, _, rfl, _, _, rfl, rfl, .inl (under (b := 2305843009213693951) (by decide) (by decide) (by decide)), .inl ⟨_, rfl, _, _, rfl, rfl, (show (0 : Int) < 1152921504606846883 by decide), _, rfl,
        _, _, rfl, rfl, .inl (under (b := 1152921504606846883) (by decide) (by decide) (by decide)), _, rfl, d, _, _, _, rfl, rfl, SqL.of hd2, (by rfl), _, _, rfl, rfl, .inl (by decide), _, _, rfl, rfl, ?_⟩⟩
      refine ⟨_, rfl, _, rfl, d, _, _, _, rfl, rfl, SqL.of hd2, (by rfl), _, _, rfl, rfl, .inl ⟨_, rfl, _, _, rfl, rfl, (show (0 : Int) < 4398046511093 by decide), _, _, rfl, rfl, ⟨by decide, by decide⟩,
        .inl ⟨_, rfl, _, rfl, _, _, rfl, rfl, n0, ?_⟩⟩⟩
      exact q _ _ (Int.emod_nonneg _ (by omega)) (Int.emod_lt_of_pos _ n0) ⟨_, _, _, upd_same⟩ fun b hb => upd_ne hb
theorem scP : FnScope ["_law_dice_here", "_law_items"] ["_law_dice_here", "_law_items"] (defScope sPick) := ⟨rfl, rfl, rfl, by decide +kernel, rfl, by decide +kernel, by decide +kernel⟩
theorem ok_pick {f fR : Addr} {fd fdR : FuncData} (F : Fun K "_law_pick" "_law_pick" sPick f fd) (T : Blt mg) (FR : Fun K "_law_roll" "_law_roll" sRoll fR fdR)
    (gR : mg "_law_roll" = some (.ref fR)) (bR : Binds K fdR ["_law_dice_here", "_law_total"] []) :
    FnOk P w K mg base CX0 2 f fd ["_law_dice_here", "_law_items"] spPick := by
  have GR : FnOk P w K mg base CX0 1 fR fdR ["_law_dice_here", "_law_total"] spRoll := ok_roll FR T
  refine F.ok scP (fun vs H Q E h => ?_) (fun cdv A outer s H vs Q E hr h => ?_)
  · obtain ⟨d, l, xs, rfl, _⟩ := h
    rfl
  · obtain ⟨d, l, xs, rfl, hd, hl, ne, x0, x1, q⟩ := h
    refine ⟨_, pss_one (ps_ret (pe_ix ix_list (pv 1) (pe_call GR hr rfl gR FR.kp bR .nil pass0
      (pa_cons (pv 0) (pa_cons (pe_callB call_len (by rfl) T.len PySem.boot_len (pa_cons (pv 1) pa_nil)) pa_nil))) (fun _ _ => rfl))), ?_⟩
    refine ⟨_, rfl, _, rfl, _, rfl, .ref l, _, rfl, .inl ⟨_, SqL.of hl, rfl⟩, d, _, rfl, hd, (by omega), (by omega), fun r H' r0 r1 hd' same => ?_⟩
    obtain ⟨j, rfl⟩ := Int.eq_ofNat_of_zero_le r0
    have hj : j < xs.length := by omega
    refine ⟨l, xs, _, xs[j], rfl, rfl, SqL.of ((same l ne).trans hl), atI_nat (by simp [hj]), ?_⟩
    exact q _ _ (List.getElem_mem hj) hd' same
end
end LR
set_option Elab.async false
set_option linter.all false
set_option maxRecDepth 100000
set_option maxHeartbeats 4000000
namespace LR
open PySem L2 CG
open PySem.W (kitOne Frag)
/-! ### the mirror: what symbols are -/
def low (c : Nat) : Bool := decide (97 ≤ c ∧ c ≤ 122)
def smallL (l : List Nat) : Bool := l.all low
def signs : List Nat := [33, 38, 40, 41, 42, 43, 44, 45, 46, 47, 58, 59, 60, 61, 62, 63, 91, 93, 94, 124]
def isWord (l : List Nat) : Bool := decide (1 ≤ l.length ∧ l.length ≤ 8) && smallL l
def isTerm (l : List Nat) : Bool := isWord l || match l with | [c] => decide (c ∈ signs) | _ => false
def isNont : List Nat → Bool
  | [] => false
  | c :: r => decide (r.length ≤ 5) && decide (65 ≤ c ∧ c ≤ 90) && smallL r
def isName (l : List Nat) : Bool := isWord l && !decide (l = [115, 104, 105, 102, 116]) && !decide (l = [97, 99, 99, 101, 112, 116])
def lO (f : List Nat → Bool) : Option Str → Bool
  | none => false
  | some z => f z.cps.toList
theorem low_mem (c : Nat) : decide (c ∈ (Str.ofString "abcdefghijklmnopqrstuvwxyz").cps.toList) = low c := by
  rw [show (Str.ofString "abcdefghijklmnopqrstuvwxyz").cps.toList = [97, 98, 99, 100, 101, 102, 103, 104, 105, 106, 107, 108, 109, 110, 111, 112, 113, 114, 115, 116, 117, 118, 119, 120, 121, 122] by decide +kernel]
  unfold low
  congr 1
  simp only [List.mem_cons, List.not_mem_nil, or_false, eq_iff_iff]
  omega
theorem big_mem (c : Nat) : decide (c ∈ (Str.ofString "ABCDEFGHIJKLMNOPQRSTUVWXYZ").cps.toList) = decide (65 ≤ c ∧ c ≤ 90) := by
  rw [show (Str.ofString "ABCDEFGHIJKLMNOPQRSTUVWXYZ").cps.toList = [65, 66, 67, 68, 69, 70, 71, 72, 73, 74, 75, 76, 77, 78, 79, 80, 81, 82, 83, 84, 85, 86, 87, 88, 89, 90] by decide +kernel]
  congr 1
  simp only [List.mem_cons, List.not_mem_nil, or_false, eq_iff_iff]
  omega
theorem sign_mem (c : Nat) : decide (c ∈ (Str.ofString "!&()*+,-./:;<=>?[]^|").cps.toList) = decide (c ∈ signs) := by
  rw [show (Str.ofString "!&()*+,-./:;<=>?[]^|").cps.toList = signs by decide +kernel]
theorem same_upd {H : Hp} {p : Addr} {o : HO} (hp : H p = none) : Same H (upd H p o) := fun b u e => by
  rw [upd_ne (ne_of_none e hp)]; exact e
/-! ### comprehensions: the heap grows, the new list at D -/
theorem lc_gen {J : It} {n : Nat} {G : Hp → Prop} {Y : Nat → Hp → V → Hp → Prop} (w : Walk J n G Y) {tt : TT} {te : TE} {k : Nat} {σ : L2.St} {H1 : Hp} {D : Addr} {Qd : Hp → Prop} (b : Nat → Bool) (y : Nat → V) (hn : n < sizeLine) (nD : H1 D = none)
    (hw : ∀ x, wipe ((wipe σ [k]).set k (some x)) [k] = wipe σ [k]) (hG : ∀ H', Same H1 H' → G H')
    (hs : ∀ i x H' H'', i < n → Same H1 H' → Y i H' x H'' → H'' = H' ∧ (∀ R : Bool → Hp → Prop, (∀ H3, Same H' H3 → R (b i) H3) → tt ((wipe σ [k]).set k (some x)) H' R) ∧
      (b i = true → ∀ H3, Same H' H3 → ∀ R : VK, (∀ H4, Same H3 H4 → R (y i) H4) → te ((wipe σ [k]).set k (some x)) H3 R))
    (hd : ∀ H', Same H1 H' → H' D = some (.lst (((List.range n).filter b).map y)) → Qd H') :
    ∃ W : Nat → Nat → Hp → Prop, (∃ m, W 0 m (upd H1 D (.lst []))) ∧ ∀ i m H, W i m H →
      (J.stop i H ∧ Qd H) ∨ (J.go i H ∧ ∃ Nx : Hp → Prop, (∀ H', Nx H' → ∃ m', m' < m ∧ W (i + 1) m' H') ∧ ∀ x H', J.yld i H x H' → gName k x (wipe σ [k]) H' fun σ2 H2 => wipe σ2 [k] = wipe σ [k] ∧ tt σ2 H2 fun b H3 =>
        if b = true then te σ2 H3 fun y H4 => ∃ acc, H4 D = some (.lst acc) ∧ acc.length < sizeLine ∧ Nx (upd H4 D (.lst (acc ++ [y]))) else Nx H3) := by
  refine lc_it w (fun i H' => Same H1 H' ∧ H' D = some (.lst (((List.range i).filter b).map y))) ⟨same_upd nD, upd_same⟩ (fun i H' _ z => hG H' z.1) ?_ (fun H' z => hd H' z.1 z.2)
  rintro i x H' H'' hi ⟨same, at'⟩ hy
  obtain ⟨rfl, ht, he⟩ := hs i x H' H'' hi same hy
  refine ⟨hw x, ht _ fun H3 s3 => ?_⟩
  cases hb : b i with
  | false =>
    rw [if_neg (by decide)]
    refine ⟨same.trans s3, ?_⟩
    rw [List.range_succ, List.filter_append, List.map_append]
    simp only [List.filter_cons, List.filter_nil, hb, Bool.false_eq_true, if_false, List.map_nil, List.append_nil]
    exact s3 _ _ at'
  | true =>
    rw [if_pos rfl]
    refine he hb H3 s3 _ fun H4 s4 => ⟨_, s4 _ _ (s3 _ _ at'), ?_, ?_, ?_⟩
    · rw [List.length_map]
      have := List.length_filter_le b (List.range i)
      rw [List.length_range] at this
      omega
    · intro c o z
      rw [upd_ne (ne_of_none z nD)]
      exact s4 _ _ (s3 _ _ (same _ _ z))
    · rw [upd_same, List.range_succ, List.filter_append, List.map_append]
      simp only [List.filter_cons, List.filter_nil, hb, if_true, List.map_cons, List.map_nil]
/-! ### values -/
def NotStr (K : Frag) (H : Hp) (x : V) : Prop := ∃ t, TyX K H x t ∧ kitOne K t (.type "str") = some false
/-- a value, as a string of moderate length or none -/
def Sx (K : Frag) (H : Hp) (x : V) : Option Str → Prop
  | none => NotStr K H x
  | some z => x = .str z ∧ z.length ≤ 10000
/-- built-in names and constants of symbols -/
structure Sy (mg : Str → Option Value) : Prop where
  all : mg "all" = none
  isi : mg "isinstance" = none
  str : mg "str" = none
  tuple : mg "tuple" = none
  len : mg "len" = none
  int : mg "int" = none
  bool : mg "bool" = none
  list : mg "list" = none
  set : mg "set" = none
  sorted : mg "sorted" = none
  repr : mg "repr" = none
  range : mg "range" = none
  min : mg "min" = none
  sml : ∃ t, mg "SMALL_LETTERS" = some (.str "abcdefghijklmnopqrstuvwxyz" t)
  mxl : ∃ t, mg "MAX_LETTERS" = some (.int 8 t)
  mxb : ∃ t, mg "MAX_BODY" = some (.int 5 t)
  byd : ∃ t, mg "BEYOND" = some (.int (10 ^ 60) t)
  mbs : ∃ t, mg "MAX_BARS" = some (.int 60 t)
  mts : ∃ t, mg "MAX_TREES" = some (.int 20 t)
def spSmallL : Sp := fun vs H Q _ => ∃ z : Str, vs = [.str z] ∧ z.length ≤ 10000 ∧ ∀ H', Same H H' → Q (.bl (smallL z.cps.toList)) H'
def spO (K : Frag) (f : List Nat → Bool) : Sp := fun vs H Q _ => ∃ (x : V) (o : Option Str), vs = [x] ∧ Sx K H x o ∧ ∀ H', Same H H' → Q (.bl (lO f o)) H'
theorem line10000 {n : Nat} (h : n ≤ 10000) : n < sizeLine := Nat.lt_of_le_of_lt h (by decide)
section
variable {P : Program} {w : World} {K : Frag} {mg : Str → Option Value} {base : Heap}
theorem all_range_get (l : List Nat) (p : Nat → Bool) : ((List.range l.length).map fun i => p (l.getD i 0)).all id = l.all p := by
  rw [List.all_map]
  have e : (List.range l.length).map (fun j => l.getD j 0) = l := PyProof.Rows.range_getD l 0
  conv => rhs; rw [← e]
  rw [List.all_map] <;> rfl
theorem filter_true {α : Type} (l : List α) : l.filter (fun _ => true) = l := by simp
theorem scSm : FnScope ["text", "letter"] ["text"] (defScope sSmall) := ⟨rfl, rfl, rfl, by decide +kernel, rfl, by decide +kernel, by decide +kernel⟩
theorem ok_small {f : Addr} {fd : FuncData} (F : Fun K "has_small_letters" "has_small_letters" sSmall f fd) (T : Sy mg) : FnOk P w K mg base CX0 1 f fd ["text"] spSmallL := by
  refine F.ok scSm (fun vs H Q E h => ?_) (fun cdv A outer s H vs Q E hr h => ?_)
  · obtain ⟨z, rfl, _⟩ := h
    rfl
  · obtain ⟨z, rfl, hz, q⟩ := h
    obtain ⟨ts, hts⟩ := T.sml
    refine ⟨_, pss_one (ps_ret (pe_callB (cr_all rfl) (by rfl) T.all PyProof.Rows.boot_all (pa_cons (pe_lc (own := [("letter", 1)]) (g := gName 1) (tt := tYes) rfl scSm.nd (pi_str (pv 0))
      (blkOk_by (N := ["text", "letter"]) (sc := defScope sSmall) (by decide +kernel)) (fun _ _ _ _ _ => pg_name (i := 1) scSm.nd rfl (Or.inl rfl)) (fun _ _ _ _ _ => pts_nil)
      (fun _ _ _ _ _ => pe_cmpR op_in_sign (pv 1) (pe_glob (v := .str "abcdefghijklmnopqrstuvwxyz") rfl hts ⟨ts, rfl⟩) (by rfl))) pa_nil))), ?_⟩
    refine ⟨_, rfl, z, rfl, fun D nD => ?_⟩
    refine lc_gen walk_str (fun _ => true) (fun i => .bl (low (z.cps.toList.getD i 0))) (line10000 hz) nD (fun _ => rfl) (fun _ _ => True.intro) ?_ ?_
    · rintro i x H' H'' hi same ⟨rfl, c, hc, rfl⟩
      refine ⟨rfl, fun R h => h _ (fun _ _ e => e), fun _ H3 s3 R h => ?_⟩
      refine ⟨_, rfl, c, _, rfl, rfl, ?_⟩
      rw [low_mem]
      have e : z.cps.toList.getD i 0 = c := by
        rw [List.getD_eq_getElem?_getD, Array.getElem?_toList, hc] <;> rfl
      rw [e] at h
      exact h _ (fun _ _ e => e)
    · intro H' same at'
      rw [filter_true] at at'
      refine ⟨D, (List.range z.cps.size).map fun i => low (z.cps.toList.getD i 0), rfl, SqL.of (by rw [List.map_map]; exact at'), ?_⟩
      have e := all_range_get z.cps.toList low
      rw [Array.length_toList] at e
      rw [e]
      exact q _ same
end
/-- a def where it stands -/
structure Kn (K : Frag) (mg : Str → Option Value) (n : Str) (st : Stmt) (f : Addr) (fd : FuncData) (ps : List Str) : Prop where
  F : Fun K n n st f fd
  g : mg n = some (.ref f)
  b : Binds K fd ps []
theorem len_cps (z : Str) : z.length = z.cps.toList.length := by simp [Str.length]
theorem Same.rfl' (H : Hp) : Same H H := fun _ _ e => e
theorem str_ext {x y : Str} : x = y ↔ x.cps.toList = y.cps.toList := by
  constructor
  · rintro rfl; rfl
  · intro h
    cases x; cases y
    simp only [Array.toList_inj] at h
    rw [h]
section
variable {P : Program} {w : World} {K : Frag} {mg : Str → Option Value} {base : Heap}
theorem isi_str {H : Hp} {x : V} {o : Option Str} (s : Sx K H x o) : ∃ t, TyX K H x t ∧ kitOne K t (.type "str") = some o.isSome := by
  cases o with
  | none => exact s
  | some z =>
    obtain ⟨rfl, _⟩ := s
    exact ⟨_, .base (.str z), rfl⟩
theorem Sx.mono {H H' : Hp} (s : Same H H') {x : V} {o : Option Str} (h : Sx K H x o) : Sx K H' x o := by
  cases o with
  | some z => exact h
  | none =>
    obtain ⟨t, ty, k⟩ := h
    refine ⟨t, ?_, k⟩
    cases ty with
    | base b =>
      cases b with
      | non => exact .base .non
      | bl y => exact .base (.bl y)
      | int y => exact .base (.int y)
      | str y => exact .base (.str y)
      | flt y => exact .base (.flt y)
      | lst e => exact .base (.lst (s _ _ e))
      | frz e => exact .base (.frz (s _ _ e))
      | tup e => exact .base (.tup (s _ _ e))
      | dK e => exact .base (.dK (s _ _ e))
      | dT e => exact .base (.dT (s _ _ e))
      | ins e a b c d f => exact .base (.ins (s _ _ e) a b c d f)
    | byt b => exact .byt b
    | set e => exact .set (s _ _ e)
    | kList e c => exact .kList e c
    | kTuple e c => exact .kTuple e c
    | kDict e c => exact .kDict e c
    | fTuple e => exact .fTuple (s _ _ e)
    | fDict e => exact .fDict (s _ _ e)
theorem scW : FnScope ["value"] ["value"] (defScope sWord) := ⟨rfl, rfl, rfl, by decide +kernel, rfl, by decide +kernel, by decide +kernel⟩
theorem ok_word {f fS : Addr} {fd dS : FuncData} (F : Fun K "is_word" "is_word" sWord f fd) (T : Sy mg) (S : Kn K mg "has_small_letters" sSmall fS dS ["text"]) : FnOk P w K mg base CX0 2 f fd ["value"] (spO K isWord) := by
  have GS : FnOk P w K mg base CX0 1 fS dS ["text"] spSmallL := ok_small S.F T
  refine F.ok scW (fun vs H Q E h => ?_) (fun cdv A outer s H vs Q E hr h => ?_)
  · obtain ⟨x, o, rfl, _⟩ := h
    rfl
  · obtain ⟨x, o, rfl, hx, q⟩ := h
    obtain ⟨tm, htm⟩ := T.mxl
    refine ⟨_, pss_one (ps_ret (pe_and (pe_callB call_isi (by rfl) T.isi PyProof.Rows.boot_isinstance (pa_cons (pv 0) (pa_cons (pe_bltn (v := .ty "str") (by rfl) T.str PyProof.Rows.boot_str rfl) pa_nil)))
      (pe_and (pe_chain op_le op_le pe_int (pe_callB call_len_str (by rfl) T.len PySem.boot_len (pa_cons (pv 0) pa_nil)) (pe_glob (v := .int 8) rfl htm ⟨tm, rfl⟩))
      (pe_one (pe_call GS hr rfl S.g S.F.kp S.b .nil pass0 (pa_cons (pv 0) pa_nil)))))), ?_⟩
    obtain ⟨t, ty, kt⟩ := isi_str hx
    refine ⟨_, rfl, x, _, t, _, _, rfl, .ty _, ty, kt, _, rfl, ?_⟩
    cases o with
    | none => exact q H (Same.rfl' H)
    | some z =>
      obtain ⟨rfl, hz⟩ := hx
      have e0 : z.length = z.cps.toList.length := len_cps z
      refine ⟨_, rfl, z, rfl, Nat.le_of_lt (line10000 hz), 1, _, rfl, rfl, _, rfl, ite2 (fun h1 => ?_) (fun h1 => ?_)⟩
      · have g1 := of_decide_eq_true h1
        refine ⟨_, _, rfl, rfl, _, rfl, ite2 (fun h2 => ?_) (fun h2 => ?_)⟩
        · have g2 := of_decide_eq_true h2
          refine ⟨_, rfl, z, rfl, hz, fun H' s' => ?_⟩
          have e : lO isWord (some z) = smallL z.cps.toList := by
            show (decide (1 ≤ z.cps.toList.length ∧ z.cps.toList.length ≤ 8) && smallL z.cps.toList) = smallL z.cps.toList
            rw [decide_eq_true (by omega), Bool.true_and]
          rw [e] at q
          exact q H' s'
        · have g2 := mt decide_eq_true h2
          have e : lO isWord (some z) = false := by
            show (decide (1 ≤ z.cps.toList.length ∧ z.cps.toList.length ≤ 8) && smallL z.cps.toList) = false
            rw [decide_eq_false (by omega), Bool.false_and]
          rw [e] at q
          exact q H (Same.rfl' H)
      · have g1 := mt decide_eq_true h1
        have e : lO isWord (some z) = false := by
          show (decide (1 ≤ z.cps.toList.length ∧ z.cps.toList.length ≤ 8) && smallL z.cps.toList) = false
          rw [decide_eq_false (by omega), Bool.false_and]
        rw [e] at q
        exact ⟨_, rfl, q H (Same.rfl' H)⟩
theorem scNm : FnScope ["value"] ["value"] (defScope sName) := ⟨rfl, rfl, rfl, by decide +kernel, rfl, by decide +kernel, by decide +kernel⟩
/-- OTHER_ACTIONS, a tuple of the written part -/
def OthAt (K : Frag) (mg : Str → Option Value) : Prop := ∃ a, mg "OTHER_ACTIONS" = some (.ref a) ∧ ∀ H, SqT K H a [.str "shift", .str "accept"]
theorem ok_name {f fW : Addr} {fd dW : FuncData} (F : Fun K "is_name" "is_name" sName f fd) (T : Sy mg) (O : OthAt K mg) (W : Kn K mg "is_word" sWord fW dW ["value"]) (GW : FnOk P w K mg base CX0 2 fW dW ["value"] (spO K isWord)) :
    FnOk P w K mg base CX0 3 f fd ["value"] (spO K isName) := by
  refine F.ok scNm (fun vs H Q E h => ?_) (fun cdv A outer s H vs Q E hr h => ?_)
  · obtain ⟨x, o, rfl, _⟩ := h
    rfl
  · obtain ⟨x, o, rfl, hx, q⟩ := h
    obtain ⟨ao, hao, hoo⟩ := O
    refine ⟨_, pss_one (ps_ret (pe_and (pe_call GW hr rfl W.g W.F.kp W.b .nil pass0 (pa_cons (pv 0) pa_nil))
      (pe_one (pe_cmpR op_notIn_seq (pv 0) (pe_glob (v := .ref ao) rfl hao rfl) (by rfl))))), ?_⟩
    refine ⟨_, rfl, x, o, rfl, hx, fun H1 s1 => ⟨_, rfl, ite2 (fun h1 => ?_) (fun h1 => ?_)⟩⟩
    · cases o with
      | none => cases h1
      | some z =>
        obtain ⟨rfl, hz⟩ := hx
        refine ⟨_, rfl, ao, _, rfl, .inr (hoo _), rfl, rfl, ?_⟩
        have e : lO isName (some z) = !inV (.str z) [.str "shift", .str "accept"] := by
          show (isWord z.cps.toList && _ && _) = _
          rw [show isWord z.cps.toList = true from h1, Bool.true_and]
          show _ = !((Str.ofString "shift" == z) || ((Str.ofString "accept" == z) || false))
          rw [Bool.or_false, Bool.not_or]
          have e1 : (Str.ofString "shift" == z) = decide (z.cps.toList = [115, 104, 105, 102, 116]) := by
            rw [Bool.eq_iff_iff, beq_iff_eq, decide_eq_true_eq, str_ext, show (Str.ofString "shift").cps.toList = [115, 104, 105, 102, 116] by decide +kernel]
            exact eq_comm
          have e2 : (Str.ofString "accept" == z) = decide (z.cps.toList = [97, 99, 99, 101, 112, 116]) := by
            rw [Bool.eq_iff_iff, beq_iff_eq, decide_eq_true_eq, str_ext, show (Str.ofString "accept").cps.toList = [97, 99, 99, 101, 112, 116] by decide +kernel]
            exact eq_comm
          rw [e1, e2]
        rw [e] at q
        exact q H1 s1
    · have e : lO isName o = false := by
        cases o with
        | none => rfl
        | some z =>
          show (isWord z.cps.toList && _ && _) = false
          rw [show isWord z.cps.toList = false from Bool.eq_false_iff.mpr h1, Bool.false_and, Bool.false_and]
      rw [e] at q
      exact q H1 s1
end
end LR
set_option Elab.async false
set_option linter.all false
set_option maxRecDepth 100000
set_option maxHeartbeats 4000000
namespace LR
open PySem L2 CG
open PySem.W (kitOne Frag)
/-! ### values as data -/
def strO : PyData → Option Str | .str z => some z | _ => none
def tupO : PyData → Option (List PyData) | .tuple ds => some ds | _ => none
def isIntD : PyData → Bool | .int _ => true | .bool _ => true | _ => false
def isBlD : PyData → Bool | .bool _ => true | _ => false
theorem tyx_list {K : Frag} {H : Hp} {a : Addr} {xs : List V} (h : SqL K H a xs) : TyX K H (.ref a) (.type "list") := by
  rcases h with (h | ⟨o, h⟩) | ⟨o, its, n, hk, hc, _⟩
  · exact .base (.lst h)
  · exact .base (.frz h)
  · exact .kList hk hc
theorem sqT_same {K : Frag} {H H' : Hp} {a : Addr} {xs : List V} (s : Same H H') (h : SqT K H a xs) : SqT K H' a xs := by
  rcases h with (h | ⟨o, h⟩) | h
  · exact .inl (.inl (s _ _ h))
  · exact .inl (.inr ⟨o, s _ _ h⟩)
  · exact .inr h
theorem sqL_same {K : Frag} {H H' : Hp} {a : Addr} {xs : List V} (s : Same H H') (h : SqL K H a xs) : SqL K H' a xs := by
  rcases h with (h | ⟨o, h⟩) | h
  · exact .inl (.inl (s _ _ h))
  · exact .inl (.inr ⟨o, s _ _ h⟩)
  · exact .inr h
theorem tyx_tup {K : Frag} {H : Hp} {a : Addr} {xs : List V} (h : SqT K H a xs) : TyX K H (.ref a) (.type "tuple") := by
  rcases h with (h | ⟨o, h⟩) | ⟨o, its, n, hk, hc, _⟩
  · exact .base (.tup h)
  · exact .fTuple h
  · exact .kTuple hk hc
mutual
theorem dp_same {K : Frag} {H H' : Hp} (s : Same H H') : ∀ (d : PyData) (x : V), Dp K H x d → Dp K H' x d
  | .none, _, h => by cases h; exact .non
  | .bool b, _, h => by cases h; exact .bl b
  | .int i, _, h => by cases h; exact .int i
  | .str z, _, h => by cases h; exact .str z
  | .list ds, _, h => by cases h with | lst q a => exact .lst (sqL_same s q) (dpAll_same s ds _ a)
  | .tuple ds, _, h => by cases h with | tup q a => exact .tup (sqT_same s q) (dpAll_same s ds _ a)
  | .dict _, _, h => by cases h
theorem dpAll_same {K : Frag} {H H' : Hp} (s : Same H H') : ∀ (ds : List PyData) (xs : List V), DpAll K H xs ds → DpAll K H' xs ds
  | [], _, h => by cases h; exact .nil
  | d :: ds, _, h => by cases h with | cons h1 h2 => exact .cons (dp_same s d _ h1) (dpAll_same s ds _ h2)
end
theorem dpAll_len {K : Frag} {H : Hp} : ∀ {ds : List PyData} {xs : List V}, DpAll K H xs ds → xs.length = ds.length
  | [], _, h => by cases h; rfl
  | _ :: _, _, h => by cases h with | cons _ h2 => rw [List.length_cons, List.length_cons, dpAll_len h2]
theorem dpAll_at {K : Frag} {H : Hp} : ∀ {ds : List PyData} {xs : List V}, DpAll K H xs ds → ∀ (i : Nat) (x : V), xs[i]? = some x → ∃ d, ds[i]? = some d ∧ Dp K H x d
  | [], _, h, i, x, e => by cases h; cases e
  | _ :: _, _, h, i, x, e => by
    cases h with
    | cons h1 h2 =>
      cases i with
      | zero => cases e; exact ⟨_, rfl, h1⟩
      | succ i => exact dpAll_at h2 i x e
/-- its class, as isinstance sees it -/
structure Ty1 (K : Frag) (H : Hp) (x : V) (d : PyData) (t : Value) : Prop where
  ty : TyX K H x t
  str : kitOne K t (.type "str") = some (strO d).isSome
  tup : kitOne K t (.type "tuple") = some (tupO d).isSome
  int : kitOne K t (.type "int") = some (isIntD d)
  bl : kitOne K t (.type "bool") = some (isBlD d)
theorem dp_ty {K : Frag} {H : Hp} : ∀ {d : PyData} {x : V}, Dp K H x d → ∃ t, t ∈ [Value.type "NoneType", .type "bool", .type "int", .type "str", .type "list", .type "tuple"] ∧ Ty1 K H x d t
  | .none, _, h => by cases h; exact ⟨_, by simp, .base .non, rfl, rfl, rfl, rfl⟩
  | .bool b, _, h => by cases h; exact ⟨_, by simp, .base (.bl b), rfl, rfl, rfl, rfl⟩
  | .int i, _, h => by cases h; exact ⟨_, by simp, .base (.int i), rfl, rfl, rfl, rfl⟩
  | .str z, _, h => by cases h; exact ⟨_, by simp, .base (.str z), rfl, rfl, rfl, rfl⟩
  | .list ds, _, h => by cases h with | lst q a => exact ⟨_, by simp, tyx_list q, rfl, rfl, rfl, rfl⟩
  | .tuple ds, _, h => by cases h with | tup q a => exact ⟨_, by simp, tyx_tup q, rfl, rfl, rfl, rfl⟩
  | .dict _, _, h => by cases h
def okS (d : PyData) : Prop := ∀ z, d = .str z → z.length ≤ 10000
theorem dp_sx {K : Frag} {H : Hp} {d : PyData} {x : V} (h : Dp K H x d) (ok : okS d) : Sx K H x (strO d) := by
  obtain ⟨t, _, ty⟩ := dp_ty h
  cases d with
  | str z => cases h; exact ⟨rfl, ok z rfl⟩
  | _ => exact ⟨t, ty.ty, ty.str⟩
/-! ### the mirror: what bars are -/
def intB (lo hi : Int) : PyData → Bool | .int i => decide (lo < i) && decide (i < hi) | _ => false
def nameD (d : PyData) : Bool := lO isName (strO d)
def howB : PyData → Bool | .str z => decide (z = "child") || decide (z = "left") || decide (z = "right") | _ => false
def idxB : PyData → Bool | .int i => decide (0 ≤ i) && decide (i < 5) | _ => false
def barB : PyData → Bool
  | .tuple [h, o, i, n] => howB h && nameD o && idxB i && nameD n
  | _ => false
def spD (K : Frag) (f : PyData → Bool) : Sp := fun vs H Q _ => ∃ (x : V) (d : PyData), vs = [x] ∧ Dp K H x d ∧ ∀ H', Same H H' → Q (.bl (f d)) H'
def spIdx (K : Frag) : Sp := fun vs H Q _ => ∃ (x : V) (d : PyData), vs = [x, .int 5] ∧ Dp K H x d ∧ ∀ H', Same H H' → Q (.bl (idxB d)) H'
def HowsAt (K : Frag) (mg : Str → Option Value) : Prop := ∃ a, mg "HOWS" = some (.ref a) ∧ ∀ H, SqT K H a [.str "child", .str "left", .str "right"]
def okB (d : PyData) : Prop := ∀ ds, d = .tuple ds → ∀ e ∈ ds, okS e
def spBarOf (K : Frag) : Sp := fun vs H Q _ => ∃ (x : V) (a : Addr) (d : PyData), vs = [x, .ref a] ∧ SqT K H a [.str "child", .str "left", .str "right"] ∧ Dp K H x d ∧ okB d ∧ ∀ H', Same H H' → Q (.bl (barB d)) H'
def spBarV (K : Frag) : Sp := fun vs H Q _ => ∃ (x : V) (d : PyData), vs = [x] ∧ Dp K H x d ∧ okB d ∧ ∀ H', Same H H' → Q (.bl (barB d)) H'
section
variable {P : Program} {w : World} {K : Frag} {mg : Str → Option Value} {base : Heap}
theorem scInt : FnScope ["value"] ["value"] (defScope sInteger) := ⟨rfl, rfl, rfl, by decide +kernel, rfl, by decide +kernel, by decide +kernel⟩
theorem ok_integer {f : Addr} {fd : FuncData} (F : Fun K "is_integer" "is_integer" sInteger f fd) (T : Sy mg) : FnOk P w K mg base CX0 1 f fd ["value"] (spD K (intB (-(10 ^ 60)) (10 ^ 60))) := by
  refine F.ok scInt (fun vs H Q E h => ?_) (fun cdv A outer s H vs Q E hr h => ?_)
  · obtain ⟨x, d, rfl, _⟩ := h
    rfl
  · obtain ⟨x, d, rfl, hx, q⟩ := h
    obtain ⟨tb, htb⟩ := T.byd
    refine ⟨_, pss_one (ps_ret (pe_and (pe_callB call_isi (by rfl) T.isi PyProof.Rows.boot_isinstance (pa_cons (pv 0) (pa_cons (pe_bltn (v := .ty "int") (by rfl) T.int PyProof.Rows.boot_int rfl) pa_nil)))
      (pe_and (pe_not (pe_callB call_isi (by rfl) T.isi PyProof.Rows.boot_isinstance (pa_cons (pv 0) (pa_cons (pe_bltn (v := .ty "bool") (by rfl) T.bool PyProof.Rows.boot_bool rfl) pa_nil))))
      (pe_one (pe_chain op_lt op_lt (pe_un un_neg (pe_glob (v := .int (10 ^ 60)) rfl htb ⟨tb, rfl⟩)) (pv 0) (pe_glob (v := .int (10 ^ 60)) rfl htb ⟨tb, rfl⟩)))))), ?_⟩
    obtain ⟨t, _, ty⟩ := dp_ty hx
    refine ⟨_, rfl, x, _, t, _, _, rfl, .ty _, ty.ty, ty.int, _, rfl, ?_⟩
    cases d with
    | int i =>
      cases hx
      refine ⟨_, rfl, _, _, t, _, _, rfl, .ty _, ty.ty, ty.bl, _, rfl, _, rfl, ?_⟩
      refine ⟨_, rfl, _, rfl, _, _, rfl, rfl, _, rfl, ite2 (fun h1 => ?_) (fun h1 => ?_)⟩
      · refine ⟨_, _, rfl, rfl, ?_⟩
        have e : intB (-(10 ^ 60)) (10 ^ 60) (.int i) = decide (i < 10 ^ 60) := by show (decide _ && _) = _; rw [h1, Bool.true_and]
        rw [e] at q
        exact q H (Same.rfl' H)
      · have e : intB (-(10 ^ 60)) (10 ^ 60) (.int i) = false := by show (decide _ && _) = _; rw [Bool.eq_false_iff.mpr h1, Bool.false_and]
        rw [e] at q
        exact q H (Same.rfl' H)
    | bool b => exact ⟨_, rfl, x, _, t, _, _, rfl, .ty _, ty.ty, ty.bl, _, rfl, _, rfl, q H (Same.rfl' H)⟩
    | _ => exact q H (Same.rfl' H)
theorem scIdx : FnScope ["value", "many"] ["value", "many"] (defScope sIndex) := ⟨rfl, rfl, rfl, by decide +kernel, rfl, by decide +kernel, by decide +kernel⟩
theorem ok_index {f fI : Addr} {fd dI : FuncData} (F : Fun K "is_index" "is_index" sIndex f fd) (T : Sy mg) (I : Kn K mg "is_integer" sInteger fI dI ["value"]) : FnOk P w K mg base CX0 2 f fd ["value", "many"] (spIdx K) := by
  have GI : FnOk P w K mg base CX0 1 fI dI ["value"] (spD K (intB (-(10 ^ 60)) (10 ^ 60))) := ok_integer I.F T
  refine F.ok scIdx (fun vs H Q E h => ?_) (fun cdv A outer s H vs Q E hr h => ?_)
  · obtain ⟨x, d, rfl, _⟩ := h
    rfl
  · obtain ⟨x, d, rfl, hx, q⟩ := h
    refine ⟨_, pss_one (ps_ret (pe_and (pe_call GI hr rfl I.g I.F.kp I.b .nil pass0 (pa_cons (pv 0) pa_nil)) (pe_one (pe_chain op_le op_lt pe_int (pv 0) (pv 1))))), ?_⟩
    refine ⟨_, rfl, x, d, rfl, hx, fun H1 s1 => ⟨_, rfl, ?_⟩⟩
    cases d with
    | int i =>
      cases hx
      refine ite2 (fun h1 => ?_) (fun h1 => ?_)
      · refine ⟨_, rfl, _, _, rfl, rfl, _, rfl, ite2 (fun h2 => ?_) (fun h2 => ?_)⟩
        · refine ⟨_, rfl, _, _, rfl, rfl, ?_⟩
          have e : idxB (.int i) = decide (i < 5) := by show (decide _ && _) = _; rw [h2, Bool.true_and]
          rw [e] at q
          exact q _ s1
        · have e : idxB (.int i) = false := by show (decide _ && _) = _; rw [Bool.eq_false_iff.mpr h2, Bool.false_and]
          rw [e] at q
          exact q _ s1
      · have e : idxB (.int i) = false := by
          have z : ¬ (-(10 ^ 60) < i ∧ i < 10 ^ 60) := fun ⟨a, b⟩ => h1 (by show (decide _ && decide _) = true; rw [decide_eq_true a, decide_eq_true b]; rfl)
          show (decide _ && decide _) = false
          by_cases p : 0 ≤ i
          · rw [decide_eq_false (p := i < 5) (by omega), Bool.and_false]
          · rw [decide_eq_false p, Bool.false_and]
        rw [e] at q
        exact q _ s1
    | _ => exact q _ s1
abbrev NB : List Str := ["value", "hows", "how", "outer", "index", "inner"]
theorem scBO : FnScope NB ["value", "hows"] (defScope sBarOf) := ⟨rfl, rfl, rfl, by decide +kernel, rfl, by decide +kernel, by decide +kernel⟩
theorem how_in (z : Str) : inV (.str z) [.str "child", .str "left", .str "right"] = howB (.str z) := by
  show ((Str.ofString "child" == z) || ((Str.ofString "left" == z) || ((Str.ofString "right" == z) || false))) = _
  have s : ∀ y : Str, (y == z) = decide (z = y) := fun y => by
    rw [Bool.eq_iff_iff, beq_iff_eq, decide_eq_true_eq]
    exact eq_comm
  rw [s, s, s, Bool.or_false, ← Bool.or_assoc]
  rfl
theorem barB_len {ds : List PyData} (z : ds.length ≠ 4) : barB (.tuple ds) = false := by
  unfold barB
  split
  · rename_i e
    cases e
    exact absurd rfl z
  · rfl
theorem dpAll4 {K : Frag} {H : Hp} {xs : List V} {ds : List PyData} (h : DpAll K H xs ds) (l : xs.length = 4) :
    ∃ a b c e h o i n, xs = [a, b, c, e] ∧ ds = [h, o, i, n] ∧ Dp K H a h ∧ Dp K H b o ∧ Dp K H c i ∧ Dp K H e n := by
  cases h with
  | nil => cases l
  | cons d1 h =>
    cases h with
    | nil => cases l
    | cons d2 h =>
      cases h with
      | nil => cases l
      | cons d3 h =>
        cases h with
        | nil => cases l
        | cons d4 h =>
          cases h with
          | nil => exact ⟨_, _, _, _, _, _, _, _, rfl, rfl, d1, d2, d3, d4⟩
          | cons d5 h => simp at l
theorem ok_barof {f fN fX : Addr} {fd dN dX : FuncData} (F : Fun K "is_bar_of" "is_bar_of" sBarOf f fd) (T : Sy mg) (Nm : Kn K mg "is_name" sName fN dN ["value"]) (GN : FnOk P w K mg base CX0 3 fN dN ["value"] (spO K isName))
    (Ix : Kn K mg "is_index" sIndex fX dX ["value", "many"]) (GX : FnOk P w K mg base CX0 2 fX dX ["value", "many"] (spIdx K)) : FnOk P w K mg base CX0 4 f fd ["value", "hows"] (spBarOf K) := by
  refine F.ok scBO (fun vs H Q E h => ?_) (fun cdv A outer s H vs Q E hr h => ?_)
  · obtain ⟨x, a, d, rfl, _⟩ := h
    rfl
  · obtain ⟨x, a, d, rfl, ha, hx, ok, q⟩ := h
    obtain ⟨tb, htb⟩ := T.mxb
    have hr2 : Room 2 _ := hr.mono (by decide)
    refine ⟨_, pss_cons (ps_if (PW.pt (pw_or (pt_not (pt_val (pe_callB call_isi (by rfl) T.isi PyProof.Rows.boot_isinstance (pa_cons (pv 0) (pa_cons (pe_bltn (v := .ty "tuple") (by rfl) T.tuple PyProof.Rows.boot_tuple rfl) pa_nil)))))
        (pw_or1 (pt_cmpR op_ne (pe_callB call_len_seq (by rfl) T.len PySem.boot_len (pa_cons (pv 0) pa_nil)) pe_int (nomark _)))))
        (pss_one (ps_ret pe_bl)) pss_nil)
      (pss_cons (ps_asg (pv 0) (pg_tup rfl (pgs_cons (pg_name (i := 2) scBO.nd rfl (Or.inl rfl)) (pgs_cons (pg_name (i := 3) scBO.nd rfl (Or.inl rfl)) (pgs_cons (pg_name (i := 4) scBO.nd rfl (Or.inl rfl)) (pgs_cons (pg_name (i := 5) scBO.nd rfl (Or.inl rfl)) pgs_nil))))))
      (pss_one (ps_ret (pe_and (pe_callB call_isi (by rfl) T.isi PyProof.Rows.boot_isinstance (pa_cons (pv 2) (pa_cons (pe_bltn (v := .ty "str") (by rfl) T.str PyProof.Rows.boot_str rfl) pa_nil)))
        (pe_and (pe_cmpR op_in_seq (pv 2) (pv 1) (by rfl))
        (pe_and (pe_call GN hr rfl Nm.g Nm.F.kp Nm.b .nil pass0 (pa_cons (pv 3) pa_nil))
        (pe_and (pe_call GX hr2 rfl Ix.g Ix.F.kp Ix.b .nil pass0 (pa_cons (pv 4) (pa_cons (pe_glob (v := .int 5) rfl htb ⟨tb, rfl⟩) pa_nil)))
        (pe_one (pe_call GN hr rfl Nm.g Nm.F.kp Nm.b .nil pass0 (pa_cons (pv 5) pa_nil)))))))))), ?_⟩
    obtain ⟨t, _, ty⟩ := dp_ty hx
    refine ⟨_, rfl, x, _, t, _, _, rfl, .ty _, ty.ty, ty.tup, _, rfl, ?_⟩
    cases d with
    | tuple ds =>
      cases hx with
      | @tup p xs _ hq hd =>
        have len := dpAll_len hd
        refine ⟨_, rfl, p, xs, rfl, .inr hq, rfl, _, rfl, ite2 (fun h1 => ?_) (fun h1 => ?_)⟩
        · have e : barB (.tuple ds) = false := barB_len fun z => by
            rw [len, z] at h1
            exact absurd h1 (by decide)
          rw [e] at q
          exact q H (Same.rfl' H)
        · have z : xs.length = 4 := by
            refine Classical.byContradiction fun n => h1 ?_
            show (!decide (V.int (xs.length : Int) = V.int 4)) = true
            rw [decide_eq_false (fun hh => n (by injection hh with hh; omega))]
            rfl
          obtain ⟨x1, x2, x3, x4, h, o, i, n, rfl, rfl, d1, d2, d3, d4⟩ := dpAll4 hd z
          have okk := ok _ rfl
          obtain ⟨th, _, tyh⟩ := dp_ty d1
          refine ⟨_, rfl, p, _, rfl, hq, rfl, x1, _, rfl, x2, _, rfl, x3, _, rfl, x4, _, rfl, rfl, ?_⟩
          refine ⟨_, rfl, _, _, th, _, _, rfl, .ty _, tyh.ty, tyh.str, _, rfl, ?_⟩
          cases h with
          | str y =>
            cases d1
            refine ⟨_, rfl, _, rfl, a, _, rfl, .inr ha, rfl, rfl, _, rfl, ?_⟩
            rw [if_neg Bool.false_ne_true, how_in]
            refine ite2 (fun h2 => ?_) (fun h2 => ?_)
            · refine ⟨_, rfl, _, _, rfl, dp_sx d2 (okk o (by simp)), fun H1 s1 => ⟨_, rfl, ite2 (fun h3 => ?_) (fun h3 => ?_)⟩⟩
              · refine ⟨_, rfl, _, i, rfl, dp_same s1 _ _ d3, fun H2 s2 => ⟨_, rfl, ite2 (fun h4 => ?_) (fun h4 => ?_)⟩⟩
                · refine ⟨_, rfl, _, _, rfl, (dp_sx d4 (okk n (by simp))).mono (s1.trans s2) |> fun z => z, fun H3 s3 => ?_⟩
                  have e : barB (.tuple [.str y, o, i, n]) = lO isName (strO n) := by
                    show (howB _ && lO isName (strO o) && idxB i && nameD n) = _
                    rw [h2, h3, h4]
                    rfl
                  rw [e] at q
                  exact q H3 ((s1.trans s2).trans s3)
                · have e : barB (.tuple [.str y, o, i, n]) = false := by
                    show (howB _ && nameD o && idxB i && nameD n) = false
                    rw [Bool.eq_false_iff.mpr h4, Bool.and_false, Bool.false_and]
                  rw [e] at q
                  exact q H2 (s1.trans s2)
              · have e : barB (.tuple [.str y, o, i, n]) = false := by
                  show (howB _ && lO isName (strO o) && idxB i && nameD n) = false
                  rw [Bool.eq_false_iff.mpr h3, Bool.and_false, Bool.false_and, Bool.false_and]
                rw [e] at q
                exact q H1 s1
            · have e : barB (.tuple [.str y, o, i, n]) = false := by
                show (howB _ && nameD o && idxB i && nameD n) = false
                rw [Bool.eq_false_iff.mpr h2]
                rfl
              rw [e] at q
              exact q H (Same.rfl' H)
          | _ => exact q H (Same.rfl' H)
    | _ => exact q H (Same.rfl' H)
theorem scIB : FnScope ["value"] ["value"] (defScope sIsBar) := ⟨rfl, rfl, rfl, by decide +kernel, rfl, by decide +kernel, by decide +kernel⟩
theorem ok_isbar {f fB : Addr} {fd dB : FuncData} (F : Fun K "is_bar" "is_bar" sIsBar f fd) (Hw : HowsAt K mg) (B : Kn K mg "is_bar_of" sBarOf fB dB ["value", "hows"]) (GB : FnOk P w K mg base CX0 4 fB dB ["value", "hows"] (spBarOf K)) :
    FnOk P w K mg base CX0 5 f fd ["value"] (spBarV K) := by
  refine F.ok scIB (fun vs H Q E h => ?_) (fun cdv A outer s H vs Q E hr h => ?_)
  · obtain ⟨x, d, rfl, _⟩ := h
    rfl
  · obtain ⟨x, d, rfl, hx, ok, q⟩ := h
    obtain ⟨ah, mh, sh⟩ := Hw
    refine ⟨_, pss_one (ps_ret (pe_call GB hr rfl B.g B.F.kp B.b .nil pass0 (pa_cons (pv 0) (pa_cons (pe_glob (v := .ref ah) rfl mh rfl) pa_nil)))), ?_⟩
    exact ⟨_, rfl, x, ah, d, rfl, sh H, hx, ok, q⟩
end
end LR
set_option Elab.async false
set_option linter.all false
set_option maxRecDepth 100000
set_option maxHeartbeats 4000000
namespace LR
open PySem L2 CG SN
open PySem.W (kitOne Frag AllAlike Sortable dataLe alike alikeAll)
/-! ### bars as keys -/
def barKey : PyData → NestedKey
  | .tuple [.str h, .str o, .int i, .str n] => .tup [.text h, .text o, .num i, .text n]
  | _ => .none
theorem bar_shape {d : PyData} (b : barB d = true) : ∃ h o i n, d = .tuple [.str h, .str o, .int i, .str n] := by
  unfold barB at b
  split at b
  · rename_i h o i n
    simp only [Bool.and_eq_true] at b
    obtain ⟨⟨⟨b1, b2⟩, b3⟩, b4⟩ := b
    cases h <;> try cases b1
    cases o <;> try cases b2
    cases i <;> try cases b3
    cases n <;> try cases b4
    exact ⟨_, _, _, _, rfl⟩
  · cases b
theorem barKey_data {d : PyData} (b : barB d = true) : (barKey d).data = d ∧ (barKey d).depth ≤ 8 := by
  obtain ⟨h, o, i, n, rfl⟩ := bar_shape b
  exact ⟨rfl, by show (max 0 (max 0 (max 0 (max 0 0)))) + 1 ≤ 8; decide⟩
theorem barKey_inj {d e : PyData} (b : barB d = true) (c : barB e = true) (h : barKey d = barKey e) : d = e := by rw [← (barKey_data b).1, ← (barKey_data c).1, h]
theorem keys_of {K : Frag} {H : Hp} : ∀ {ds : List PyData} {xs : List V}, DpAll K H xs ds → (∀ d ∈ ds, barB d = true) →
    ∃ ks : List (Addr × NestedKey), ks.map (fun e => V.ref e.1) = xs ∧ ks.map (·.2) = ds.map barKey ∧ ∀ e ∈ ks, Keyed K H e
  | [], _, h, _ => by cases h; exact ⟨[], rfl, rfl, fun _ z => by cases z⟩
  | d :: ds, _, h, b => by
    cases h with
    | @cons x xs _ _ h1 h2 =>
      obtain ⟨ks, e1, e2, e3⟩ := keys_of h2 fun e he => b e (List.mem_cons_of_mem _ he)
      have bd := b d List.mem_cons_self
      obtain ⟨z1, z2⟩ := barKey_data bd
      obtain ⟨hh, o, i, n, rfl⟩ := bar_shape bd
      cases h1 with
      | @tup a ys _ q dd =>
        refine ⟨(a, barKey (.tuple [.str hh, .str o, .int i, .str n])) :: ks, by rw [List.map_cons, e1], by rw [List.map_cons, e2]; rfl, fun e he => ?_⟩
        rcases List.mem_cons.mp he with z | z
        · rw [z]
          exact ⟨by rw [z1]; exact .tup q dd, z2⟩
        · exact e3 e z
theorem dpAll_of {K : Frag} {H : Hp} : ∀ {ks : List (Addr × NestedKey)}, (∀ e ∈ ks, Keyed K H e) → DpAll K H (ks.map fun e => V.ref e.1) (ks.map fun e => e.2.data)
  | [], _ => .nil
  | e :: ks, h => .cons (h e List.mem_cons_self).1 (dpAll_of fun x hx => h x (List.mem_cons_of_mem _ hx))
abbrev dLe : PyData → PyData → Bool := dataLe false fun d : PyData => d
def sortD (ds : List PyData) : List PyData := ds.mergeSort dLe
theorem sort_keys (ks : List (Addr × NestedKey)) : (ks.mergeSort keyLe).map (fun e => e.2.data) = sortD (ks.map fun e => e.2.data) :=
  List.map_mergeSort fun _ _ _ _ => rfl
theorem data_keys {ks : List (Addr × NestedKey)} {ds : List PyData} (e : ks.map (·.2) = ds.map barKey) (b : ∀ d ∈ ds, barB d = true) : ks.map (fun e => e.2.data) = ds := by
  have z : ks.map (fun e => e.2.data) = (ks.map (·.2)).map NestedKey.data := by rw [List.map_map]; rfl
  rw [z, e, List.map_map]
  conv => rhs; rw [← List.map_id ds]
  exact List.map_congr_left fun d hd => (barKey_data (b d hd)).1
theorem bar_alike {d e : PyData} (b : barB d = true) (c : barB e = true) : alike d e = true := by
  obtain ⟨h, o, i, n, rfl⟩ := bar_shape b
  obtain ⟨h', o', i', n', rfl⟩ := bar_shape c
  simp [alike, alikeAll]
theorem bars_sort {ds : List PyData} (b : ∀ d ∈ ds, barB d = true) : AllAlike ds ∧ Sortable ds :=
  ⟨fun d hd e he => bar_alike (b d hd) (b e he), .inl fun d hd => by obtain ⟨h, o, i, n, rfl⟩ := bar_shape (b d hd); exact ⟨_, _, rfl⟩⟩
theorem bar_depth {d : PyData} (b : barB d = true) : d.depth ≤ 60 ∧ d.plain = true := by
  obtain ⟨h, o, i, n, rfl⟩ := bar_shape b
  exact ⟨by simp [PyData.depth, PyData.depthAll], by simp [PyData.plain, PyData.plainAll]⟩
/-! ### how many are different -/
theorem nodup_len {α : Type} [DecidableEq α] : ∀ {l D : List α}, l.Nodup → (∀ x ∈ l, x ∈ D) → l.length ≤ D.length
  | [], _, _, _ => Nat.zero_le _
  | x :: l, D, n, s => by
    have n2 := List.nodup_cons.mp n
    have xD := s x List.mem_cons_self
    have ih := nodup_len (l := l) (D := D.erase x) n2.2 fun y hy => (List.mem_erase_of_ne fun e => n2.1 (by rw [← e]; exact hy)).mpr (s y (List.mem_cons_of_mem _ hy))
    rw [List.length_erase_of_mem xD] at ih
    have := List.length_pos_of_mem xD
    rw [List.length_cons]
    omega
theorem nodup_short {α : Type} [DecidableEq α] : ∀ {l D : List α}, l.Nodup → (∀ x ∈ l, x ∈ D) → ¬ D.Nodup → l.length < D.length
  | l, [], _, _, d => absurd List.nodup_nil d
  | l, x :: D, n, s, d => by
    by_cases hx : x ∈ D
    · have := nodup_len n (D := D) fun y hy => by
        rcases List.mem_cons.mp (s y hy) with e | e
        · rw [e]; exact hx
        · exact e
      rw [List.length_cons]
      omega
    · have dD : ¬ D.Nodup := fun z => d (List.nodup_cons.mpr ⟨hx, z⟩)
      have ih := nodup_short (l := l.erase x) (D := D) (n.erase x) (fun y hy => by
        have y1 := List.mem_of_mem_erase hy
        rcases List.mem_cons.mp (s y y1) with e | e
        · rw [e] at hy
          exact absurd hy (List.Nodup.not_mem_erase n)
        · exact e) dD
      rw [List.length_erase] at ih
      rw [List.length_cons]
      split at ih <;> omega
theorem set_size {ks R : List (Addr × NestedKey)} (n : (R.map (·.2)).Nodup) (s : ∀ e ∈ R, e ∈ ks) (c : ∀ e ∈ ks, e.2 ∈ R.map (·.2)) : (decide ((R.length : Int) < ks.length)) = !decide (ks.map (·.2)).Nodup := by
  have sub : ∀ x ∈ R.map (·.2), x ∈ ks.map (·.2) := fun x hx => by
    obtain ⟨e, he, rfl⟩ := List.mem_map.mp hx
    exact List.mem_map.mpr ⟨e, s e he, rfl⟩
  by_cases d : (ks.map (·.2)).Nodup
  · have a := nodup_len d (D := R.map (·.2)) fun x hx => by
      obtain ⟨e, he, rfl⟩ := List.mem_map.mp hx
      exact c e he
    rw [List.length_map, List.length_map] at a
    rw [decide_eq_true d, decide_eq_false (by omega)]
    rfl
  · have a := nodup_short n sub d
    rw [List.length_map, List.length_map] at a
    rw [decide_eq_false d, decide_eq_true (by omega)]
    rfl
def goodB (ds : List PyData) : Bool := decide (ds.length ≤ 60) && ds.all barB && decide (ds.map barKey).Nodup
theorem goodB_of {ds : List PyData} (g : goodB ds = true) : ds.length ≤ 60 ∧ (∀ d ∈ ds, barB d = true) ∧ (ds.map barKey).Nodup := by
  unfold goodB at g
  simp only [Bool.and_eq_true, decide_eq_true_eq, List.all_eq_true] at g
  exact ⟨g.1.1, g.1.2, g.2⟩
theorem sortD_perm (ds : List PyData) : (sortD ds).Perm ds := List.mergeSort_perm _ _
end LR
set_option Elab.async false
set_option linter.all false
set_option maxRecDepth 100000
set_option maxHeartbeats 4000000
namespace LR
open PySem L2 CG SN KD
open PySem.W (kitOne Frag excIn keepIn subIn typeIn findIn)
/-! ### the class -/
structure Xc (K : Frag) (mg : Str → Option Value) (n : Str) (c : Addr) : Prop where
  g : mg n = some (.ref c)
  x : excIn K c [.type "ValueError", .type "Exception", .type "BaseException", .type "object"] "ValueError.__new__" = true
  k : keepIn K (.ref c) = true
  b : subIn K (.ref c) (.type "BaseException") = some true
  t : typeIn K (.ref c) = some (.type "type")
/-- a filter: its bars stand at p -/
def FAt (CF : Addr) (H : Hp) (a p : Addr) : Prop := ∃ dx, H a = some (.ins CF dx [("_bars", .ref p)])
theorem FAt.same {CF a p : Addr} {H H' : Hp} (s : Same H H') (h : FAt CF H a p) : FAt CF H' a p := by
  obtain ⟨dx, e⟩ := h
  exact ⟨dx, s _ _ e⟩
structure Fc (K : Frag) (mg : Str → Option Value) (CF : Addr) : Prop where
  g : mg "Filter" = some (.ref CF)
  cl : Cls K CF
  na : NoAttr K CF "_bars"
  cn : findIn K (.ref CF) "__class__" = some (some (.builtin "object.__class__"))
  cg : PySem.W.specialIn K (.builtin "object.__class__") "__get__" = some (some (.builtin "getset_descriptor.__get__"))
  ct : PySem.W.takesIn K (.builtin "object.__class__") = some true
  cm : PySem.W.mroIn K CF (.type "object") = some true
  kits : ∀ t ∈ [Value.type "NoneType", .type "bool", .type "int", .type "str", .type "list", .type "tuple"], kitOne K t (.ref CF) = some false ∧ PySem.W.notFirst K CF t = true
  self : PySem.W.selfFirst K CF = true
/-- what is handed to Filter: no tuple, or a tuple of data -/
inductive Arg (K : Frag) (H : Hp) (x : V) : Option (List PyData) → Prop
  | no {t : Value} : TyX K H x t → kitOne K t (.type "tuple") = some false → Arg K H x none
  | yes {ds : List PyData} : Dp K H x (.tuple ds) → (∀ d ∈ ds, okB d) → ds.length ≤ 20000 → Arg K H x (some ds)
def goodO : Option (List PyData) → Bool | none => false | some ds => goodB ds
def spFInit (K : Frag) (CF cI : Addr) : Sp := fun vs H Q E => ∃ (a dx : Addr) (x : V) (o : Option (List PyData)), vs = [.ref a, x] ∧ H a = some (.ins CF dx []) ∧ Arg K H x o ∧
  (∀ ds, o = some ds → goodB ds = true → ∀ H' p, Same H H' → H p = none → Dp K H' (.ref p) (.tuple (sortD ds)) → Q .non (upd H' a (.ins CF dx [("_bars", .ref p)]))) ∧ (goodO o = false → ∀ H', Same H H' → E (.ref cI) none H')
abbrev NI : List Str := ["self", "bars", "bar"]
theorem scIn : FnScope NI ["self", "bars"] (defScope mInit) := ⟨rfl, rfl, rfl, by decide +kernel, rfl, by decide +kernel, by decide +kernel⟩
section
variable {P : Program} {w : World} {K : Frag} {mg : Str → Option Value} {base : Heap} {CF cI fB : Addr} {dB : FuncData}
theorem all_map (l : List PyData) (p : PyData → Bool) : ((List.range l.length).map fun i => p (l.getD i .none)).all id = l.all p := by
  rw [List.all_map]
  have e : (List.range l.length).map (fun j => l.getD j PyData.none) = l := PyProof.Rows.range_getD l .none
  conv => rhs; rw [← e]
  rw [List.all_map]
  rfl
theorem body_init (cdv : Value) {A : Around} {outer : List Env} {s : Shared} {H : Hp} {E : XK} {f : Addr} (hr : Room 5 (A.deeper (PyProof.Rows.envOfC "Filter.__init__" (defScope mInit) s.heap.objs.size f cdv))) (T : Sy mg) (FC : Fc K mg CF) (X : Xc K mg "InvalidFilter" cI) (B : Kn K mg "is_bar" sIsBar fB dB ["value"]) (GB : FnOk P w K mg base CX0 5 fB dB ["value"] (spBarV K)) :
    ∃ t, PSs (cxOf (L2.CX P w) P w K mg base NI "Filter.__init__" (defScope mInit) f cdv A outer s H E) (defBody mInit) t ∧ ∀ vs Q, spFInit K CF cI vs H Q E → t { nx := fun _ H' => Q .non H', rt := Q } (start NI vs) H := by
  obtain ⟨tm, htm⟩ := T.mbs
  refine ⟨_, pss_cons (ps_if (PW.pt (pw_or (pt_not (pt_val (pe_callB call_isi (by rfl) T.isi PyProof.Rows.boot_isinstance (pa_cons (pv 1) (pa_cons (pe_bltn (v := .ty "tuple") (by rfl) T.tuple PyProof.Rows.boot_tuple rfl) pa_nil)))))
        (pw_or (pt_cmpR op_gt (pe_callB call_len_seq (by rfl) T.len PySem.boot_len (pa_cons (pv 1) pa_nil)) (pe_glob (v := .int 60) rfl htm ⟨tm, rfl⟩) (nomark _))
        (pw_or1 (pt_not (pt_val (pe_callB (cr_all rfl) (by rfl) T.all PyProof.Rows.boot_all (pa_cons (pe_lc (own := [("bar", 2)]) (g := gName 2) (tt := tYes) rfl scIn.nd (pi_tup (pv 1))
          (blkOk_by (N := NI) (sc := defScope mInit) (by decide +kernel)) (fun _ _ _ _ _ => pg_name (i := 2) scIn.nd rfl (Or.inl rfl)) (fun _ _ _ _ _ => pts_nil)
          (fun _ _ _ _ _ => pe_call GB hr rfl B.g B.F.kp B.b .nil pass0 (pa_cons (pv 2) pa_nil))) pa_nil))))))))
        (pss_one (ps_raise rfl (takes_of rfl rfl rfl rfl) (pmk_own PySem.F.excBase_ValueError X.x X.g X.k (raises_own X.b X.t) rfl))) pss_nil)
      (pss_cons (ps_if (pt_cmpR op_lt (pe_callB cr_lenN (by rfl) T.len PySem.boot_len (pa_cons (pe_callTy (cr_setN rfl hr.units) (by rfl) T.set PyProof.Rows.boot_set (pa_cons (pv 1) pa_nil)) pa_nil))
          (pe_callB call_len_seq (by rfl) T.len PySem.boot_len (pa_cons (pv 1) pa_nil)) (nomark _))
        (pss_one (ps_raise rfl (takes_of rfl rfl rfl rfl) (pmk_own PySem.F.excBase_ValueError X.x X.g X.k (raises_own X.b X.t) rfl))) pss_nil)
      (pss_one (ps_fld (pv 0) (pe_callTy call_tuple_of (by rfl) T.tuple PyProof.Rows.boot_tuple (pa_cons (pe_callB (cr_sortD hr.units) (by rfl) T.sorted (by decide +kernel) (pa_cons (pv 1) pa_nil)) pa_nil)) rfl))), ?_⟩
  rintro vs Q ⟨a, dx, x, o, rfl, ha, hx, q, e⟩
  cases hx with
  | @no t ty kt => exact ⟨_, rfl, x, _, t, _, _, rfl, .ty _, ty, kt, _, rfl, e rfl H (Same.rfl' H)⟩
  | @yes ds hd ok len =>
    obtain ⟨t, _, ty⟩ := dp_ty hd
    cases hd with
    | @tup p xs _ hq ha2 =>
      have lx := dpAll_len ha2
      refine ⟨_, rfl, .ref p, _, t, _, _, rfl, .ty _, ty.ty, ty.tup, _, rfl, ?_⟩
      refine ⟨_, rfl, p, xs, rfl, .inr hq, _, _, rfl, rfl, _, rfl, ite2 (fun h1 => ?_) (fun h1 => ?_)⟩
      · have g1 := of_decide_eq_true h1
        refine e ?_ H (Same.rfl' H)
        show (decide (ds.length ≤ 60) && _ && _) = false
        rw [decide_eq_false (by omega), Bool.false_and, Bool.false_and]
      · have g1 := mt decide_eq_true h1
        refine ⟨_, rfl, p, rfl, ⟨xs, hq⟩, fun D nD => ?_⟩
        refine lc_gen (walk_tup (xs := xs)) (fun _ => true) (fun i => .bl (barB (ds.getD i .none))) (Nat.lt_of_le_of_lt (show xs.length ≤ 20000 by omega) (by decide)) nD (fun _ => rfl) (fun H' s' => sqT_same s' hq) ?_ ?_
        · rintro i y H' H'' hi same ⟨rfl, hxi⟩
          refine ⟨rfl, fun R h => h _ (fun _ _ e => e), fun _ H3 s3 R h => ?_⟩
          obtain ⟨d, hdi, dy⟩ := dpAll_at ha2 i y hxi
          refine ⟨_, rfl, y, d, rfl, dp_same s3 _ _ (dp_same same _ _ dy), ok d (List.mem_of_getElem? hdi), fun H4 s4 => ?_⟩
          rw [List.getD_eq_getElem?_getD, hdi] at h
          exact h H4 s4
        · intro H1 s1 at1
          rw [filter_true] at at1
          refine ⟨D, (List.range ds.length).map fun i => barB (ds.getD i .none), rfl, SqL.of (by rw [List.map_map, ← lx]; exact at1), ?_⟩
          rw [all_map]
          refine ⟨_, rfl, ite2 (fun h2 => ?_) (fun h2 => ?_)⟩
          · refine e ?_ H1 s1
            show (_ && ds.all barB && _) = false
            rw [show ds.all barB = false by simpa using h2, Bool.and_false, Bool.false_and]
          · have allb : ∀ d ∈ ds, barB d = true := List.all_eq_true.mp (by simpa using h2)
            obtain ⟨ks, k1, k2, k3⟩ := keys_of (dpAll_same s1 _ _ ha2) allb
            have kd := data_keys k2 allb
            have kl : ks.length = ds.length := by have z := congrArg List.length k2; rw [List.length_map, List.length_map] at z; exact z
            have hq1 : SqT K H1 p (ks.map fun e => V.ref e.1) := by rw [k1]; exact sqT_same s1 hq
            refine ⟨_, rfl, p, ks, rfl, .inr hq1, k3, by omega, fun b R nb nd sub cov => ⟨b, R, rfl, upd_same, ?_⟩⟩
            have s2 := s1.trans (same_upd (o := SackO P w b R) nb)
            refine ⟨_, rfl, p, xs, rfl, .inr (sqT_same s2 hq), _, _, rfl, rfl, _, rfl, ?_⟩
            have dz : decide ((R.length : Int) < xs.length) = !decide (ds.map barKey).Nodup := by
              rw [lx, ← kl, set_size nd sub cov, k2]
            rw [dz]
            refine ite2 (fun h3 => ?_) (fun h3 => ?_)
            · refine e ?_ _ s2
              show (_ && _ && decide (ds.map barKey).Nodup) = false
              rw [show decide (ds.map barKey).Nodup = false by simpa using h3, Bool.and_false]
            · have good : goodB ds = true := by
                show (decide (ds.length ≤ 60) && ds.all barB && decide (ds.map barKey).Nodup) = true
                rw [decide_eq_true (by omega), List.all_eq_true.mpr allb, show decide (ds.map barKey).Nodup = true by simpa using h3]
                rfl
              obtain ⟨so1, so2⟩ := bars_sort allb
              refine ⟨_, rfl, p, ks, rfl, .inr (by rw [k1]; exact sqT_same s2 hq), (fun e he => dp_same (same_upd nb) _ _ (k3 e he).1), (fun e he => ?_), by rw [kd]; exact so1, by rw [kd]; exact so2, by rw [kl]; exact Nat.le_trans len (by decide), fun l nl => ?_⟩
              · have : e.2.data ∈ ds := by rw [← kd]; exact List.mem_map.mpr ⟨e, he, rfl⟩
                exact (bar_depth (allb _ this)).1
              · have s3 := s2.trans (same_upd (o := .lst ((ks.mergeSort keyLe).map fun e => V.ref e.1)) nl)
                refine ⟨l, _, rfl, .inl ⟨SqL.of upd_same, fun m nm => ?_⟩⟩
                have s4 := s3.trans (same_upd (o := .tup ((ks.mergeSort keyLe).map fun e => V.ref e.1)) nm)
                refine ⟨_, rfl, a, CF, dx, [], rfl, s4 _ _ ha, FC.cl, FC.na, by decide, ?_⟩
                refine q ds rfl good _ m s4 ?_ (.tup (SqT.of upd_same) ?_)
                · cases z : H m with
                  | none => rfl
                  | some o => cases (s3 m _ z).symm.trans nm
                · rw [← kd, ← sort_keys]
                  exact dpAll_of fun e he => by
                    have he2 : e ∈ ks := (List.mergeSort_perm ks _).mem_iff.mp he
                    exact ⟨dp_same (((same_upd nb).trans (same_upd nl)).trans (same_upd nm)) _ _ (k3 e he2).1, (k3 e he2).2⟩
end
end LR
set_option Elab.async false
set_option linter.all false
set_option maxRecDepth 100000
set_option maxHeartbeats 4000000
namespace LR
open PySem L2 CG SN KD
open PySem.W (kitOne Frag excIn keepIn subIn typeIn findIn)
/-! ### the simple methods -/
/-- a filter with these bars -/
def FB (K : Frag) (CF : Addr) (H : Hp) (a : Addr) (bs : List PyData) : Prop := ∃ p, FAt CF H a p ∧ Dp K H (.ref p) (.tuple bs)
theorem FB.same {K : Frag} {CF a : Addr} {bs : List PyData} {H H' : Hp} (s : Same H H') (h : FB K CF H a bs) : FB K CF H' a bs := by
  obtain ⟨p, f, d⟩ := h
  exact ⟨p, f.same s, dp_same s _ _ d⟩
/-- what an operator may find on the right: data, or a filter -/
inductive Oth (K : Frag) (CF : Addr) (H : Hp) (y : V) : Option (List PyData) → Prop
  | data {d : PyData} : Dp K H y d → Oth K CF H y none
  | fil {b : Addr} {cs : List PyData} : y = .ref b → FB K CF H b cs → (∀ c ∈ cs, barB c = true) → Oth K CF H y (some cs)
theorem plain_all {ds : List PyData} (h : ∀ d ∈ ds, barB d = true) : PyData.plainAll ds = true := by
  induction ds with
  | nil => rfl
  | cons d ds ih =>
    show (d.plain && PyData.plainAll ds) = true
    rw [(bar_depth (h d List.mem_cons_self)).2, ih fun e he => h e (List.mem_cons_of_mem _ he)]
    rfl
theorem depth_all {ds : List PyData} (h : ∀ d ∈ ds, barB d = true) : PyData.depthAll ds ≤ 1 := by
  induction ds with
  | nil => simp [PyData.depthAll]
  | cons d ds ih =>
    obtain ⟨a, b, c, e, rfl⟩ := bar_shape (h d List.mem_cons_self)
    have := ih fun e he => h e (List.mem_cons_of_mem _ he)
    simp only [PyData.depthAll, PyData.depth]
    omega
theorem oth_ty {K : Frag} {mg : Str → Option Value} {CF : Addr} {H : Hp} {y : V} {o : Option (List PyData)} (FC : Fc K mg CF) (h : Oth K CF H y o) : ∃ t, TyX K H y t ∧ kitOne K t (.ref CF) = some o.isSome := by
  cases h with
  | data d =>
    obtain ⟨t, m, ty⟩ := dp_ty d
    exact ⟨t, ty.ty, (FC.kits t m).1⟩
  | fil e f b =>
    subst e
    obtain ⟨p, ⟨dx, fa⟩, _⟩ := f
    exact ⟨_, .base (.ins fa FC.cl FC.cn FC.cg FC.ct FC.cm), by unfold kitOne; rw [if_pos (by simp)]; rfl⟩
def hasB (bs : List PyData) (d : PyData) : Bool := bs.any fun z => PyData.eqv z d
/-- bars are in by the same name -/
def textOf (n : Int) : Str := ((Str.empty ++ Str.ofString "filter of ") ++ toString n) ++ Str.ofString " bars"
def spBars (K : Frag) (CF : Addr) : Sp := fun vs H Q _ => ∃ (a : Addr) (bs : List PyData), vs = [.ref a] ∧ FB K CF H a bs ∧ ∀ p, FAt CF H a p → Dp K H (.ref p) (.tuple bs) → Q (.ref p) H
def spLenF (K : Frag) (CF : Addr) : Sp := fun vs H Q _ => ∃ (a : Addr) (bs : List PyData), vs = [.ref a] ∧ FB K CF H a bs ∧ Q (.int bs.length) H
def spBoolF (K : Frag) (CF : Addr) : Sp := fun vs H Q _ => ∃ (a : Addr) (bs : List PyData), vs = [.ref a] ∧ FB K CF H a bs ∧ Q (.bl (!bs.isEmpty)) H
def spStrF (K : Frag) (CF : Addr) : Sp := fun vs H Q _ => ∃ (a : Addr) (bs : List PyData), vs = [.ref a] ∧ FB K CF H a bs ∧ bs.length ≤ 60 ∧ Q (.str (textOf bs.length)) H
def spHasF (K : Frag) (CF : Addr) : Sp := fun vs H Q _ => ∃ (a : Addr) (bs : List PyData) (x : V) (d : PyData), vs = [.ref a, x] ∧ FB K CF H a bs ∧ (∀ b ∈ bs, barB b = true) ∧ Dp K H x d ∧ okB d ∧ ∀ H', Same H H' → Q (.bl (barB d && hasB bs d)) H'
def spEqF (K : Frag) (CF : Addr) : Sp := fun vs H Q _ => ∃ (a : Addr) (bs : List PyData) (y : V) (o : Option (List PyData)), vs = [.ref a, y] ∧ FB K CF H a bs ∧ (∀ b ∈ bs, barB b = true) ∧ Oth K CF H y o ∧
  ∀ H', Same H H' → Q (.bl (match o with | none => false | some cs => PyData.eqv (.tuple bs) (.tuple cs))) H'
theorem text_len {n : Nat} (h : n ≤ 60) : ((Str.empty ++ Str.ofString "filter of ") ++ toString (n : Int)).length ≤ 100 ∧ (textOf n).length ≤ 100 := by
  have z : ((List.range 61).all fun n => decide (((Str.empty ++ Str.ofString "filter of ") ++ toString ((n : Nat) : Int)).length ≤ 100) && decide ((textOf (n : Nat)).length ≤ 100)) = true := by decide +kernel
  have y := List.all_eq_true.mp z n (List.mem_range.mpr (by omega))
  simp only [Bool.and_eq_true, decide_eq_true_eq] at y
  exact y
section
variable {P : Program} {w : World} {K : Frag} {mg : Str → Option Value} {base : Heap} {CF : Addr}
theorem scBs : FnScope ["self"] ["self"] (defScope mBars) := ⟨rfl, rfl, rfl, by decide +kernel, rfl, by decide +kernel, by decide +kernel⟩
theorem ok_bars {f : Addr} {fd : FuncData} (F : Fun K "bars" "Filter.bars" mBars f fd) (FC : Fc K mg CF) : FnOk P w K mg base CX0 1 f fd ["self"] (spBars K CF) := by
  refine F.ok scBs (fun vs H Q E h => ?_) (fun cdv A outer s H vs Q E hr h => ?_)
  · obtain ⟨a, bs, rfl, _⟩ := h
    rfl
  · obtain ⟨a, bs, rfl, ⟨p, ⟨dx, ha⟩, hd⟩, q⟩ := h
    refine ⟨_, pss_one (ps_ret (pe_fld (pv 0) rfl)), ?_⟩
    exact ⟨_, rfl, a, CF, dx, _, .ref p, rfl, ha, FC.cl, FC.na, rfl, q p ⟨dx, ha⟩ hd⟩
theorem scLe : FnScope ["self"] ["self"] (defScope mLen) := ⟨rfl, rfl, rfl, by decide +kernel, rfl, by decide +kernel, by decide +kernel⟩
theorem ok_lenf {f : Addr} {fd : FuncData} (F : Fun K "__len__" "Filter.__len__" mLen f fd) (T : Sy mg) (FC : Fc K mg CF) : FnOk P w K mg base CX0 1 f fd ["self"] (spLenF K CF) := by
  refine F.ok scLe (fun vs H Q E h => ?_) (fun cdv A outer s H vs Q E hr h => ?_)
  · obtain ⟨a, bs, rfl, _⟩ := h
    rfl
  · obtain ⟨a, bs, rfl, ⟨p, ⟨dx, ha⟩, hd⟩, q⟩ := h
    cases hd with
    | @tup _ xs _ hq hd =>
      refine ⟨_, pss_one (ps_ret (pe_callB call_len_seq (by rfl) T.len PySem.boot_len (pa_cons (pe_fld (pv 0) rfl) pa_nil))), ?_⟩
      refine ⟨_, rfl, a, CF, dx, _, .ref p, rfl, ha, FC.cl, FC.na, rfl, p, xs, rfl, .inr hq, ?_⟩
      rw [dpAll_len hd]
      exact q
theorem scBo : FnScope ["self"] ["self"] (defScope mBool) := ⟨rfl, rfl, rfl, by decide +kernel, rfl, by decide +kernel, by decide +kernel⟩
theorem ok_boolf {f : Addr} {fd : FuncData} (F : Fun K "__bool__" "Filter.__bool__" mBool f fd) (T : Sy mg) (FC : Fc K mg CF) : FnOk P w K mg base CX0 1 f fd ["self"] (spBoolF K CF) := by
  refine F.ok scBo (fun vs H Q E h => ?_) (fun cdv A outer s H vs Q E hr h => ?_)
  · obtain ⟨a, bs, rfl, _⟩ := h
    rfl
  · obtain ⟨a, bs, rfl, ⟨p, ⟨dx, ha⟩, hd⟩, q⟩ := h
    cases hd with
    | @tup _ xs _ hq hd =>
      refine ⟨_, pss_one (ps_ret (pe_callTy OW.call_boolT (by rfl) T.bool PyProof.Rows.boot_bool (pa_cons (pe_fld (pv 0) rfl) pa_nil))), ?_⟩
      refine ⟨_, rfl, a, CF, dx, _, .ref p, rfl, ha, FC.cl, FC.na, rfl, p, xs, rfl, hq, ?_⟩
      have e : xs.isEmpty = bs.isEmpty := by
        have z := dpAll_len hd
        cases xs <;> cases bs <;> first | rfl | simp at z
      rw [e]
      exact q
theorem scSt : FnScope ["self"] ["self"] (defScope mStr) := ⟨rfl, rfl, rfl, by decide +kernel, rfl, by decide +kernel, by decide +kernel⟩
theorem ok_strf {f : Addr} {fd : FuncData} (F : Fun K "__str__" "Filter.__str__" mStr f fd) (T : Sy mg) (FC : Fc K mg CF) : FnOk P w K mg base CX0 1 f fd ["self"] (spStrF K CF) := by
  refine F.ok scSt (fun vs H Q E h => ?_) (fun cdv A outer s H vs Q E hr h => ?_)
  · obtain ⟨a, bs, rfl, _⟩ := h
    rfl
  · obtain ⟨a, bs, rfl, ⟨p, ⟨dx, ha⟩, hd⟩, l, q⟩ := h
    cases hd with
    | @tup _ xs _ hq hd =>
      have lx := dpAll_len hd
      refine ⟨_, pss_one (ps_ret (pe_joined (.cons pe_str (.cons (pe_fmt (pe_callB call_len_seq (by rfl) T.len PySem.boot_len (pa_cons (pe_fld (pv 0) rfl) pa_nil))) (.cons pe_str .nil))))), ?_⟩
      obtain ⟨t1, t2⟩ := text_len l
      refine ⟨_, rfl, by decide +kernel, _, rfl, a, CF, dx, _, .ref p, rfl, ha, FC.cl, FC.na, rfl, p, xs, rfl, .inr hq, .inr ⟨_, rfl, ?_, ?_⟩⟩
      · rw [lx]
        have z : ((List.range 61).all fun n => decide (((n : Nat) : Int).natAbs.log2 < 1920)) = true := by decide +kernel
        exact of_decide_eq_true (List.all_eq_true.mp z _ (List.mem_range.mpr (by omega)))
      · rw [lx]
        exact ⟨_, rfl, Nat.le_trans t1 (by decide), _, rfl, Nat.le_trans t2 (by decide), q⟩
theorem scHa : FnScope ["self", "x"] ["self", "x"] (defScope mContains) := ⟨rfl, rfl, rfl, by decide +kernel, rfl, by decide +kernel, by decide +kernel⟩
theorem ok_hasf {f fB : Addr} {fd dB : FuncData} (F : Fun K "__contains__" "Filter.__contains__" mContains f fd) (FC : Fc K mg CF) (B : Kn K mg "is_bar" sIsBar fB dB ["value"]) (GB : FnOk P w K mg base CX0 5 fB dB ["value"] (spBarV K)) :
    FnOk P w K mg base CX0 6 f fd ["self", "x"] (spHasF K CF) := by
  refine F.ok scHa (fun vs H Q E h => ?_) (fun cdv A outer s H vs Q E hr h => ?_)
  · obtain ⟨a, bs, x, d, rfl, _⟩ := h
    rfl
  · obtain ⟨a, bs, x, d, rfl, ⟨p, ⟨dx, ha⟩, hd⟩, allb, hx, ok, q⟩ := h
    refine ⟨_, pss_one (ps_ret (pe_and (pe_call GB hr rfl B.g B.F.kp B.b .nil pass0 (pa_cons (pv 1) pa_nil)) (pe_one (pe_cmpR (op_inT hr.units) (pv 1) (pe_fld (pv 0) rfl) (by rfl))))), ?_⟩
    refine ⟨_, rfl, x, d, rfl, hx, ok, fun H1 s1 => ⟨_, rfl, ite2 (fun h1 => ?_) (fun h1 => ?_)⟩⟩
    · refine ⟨_, rfl, _, rfl, a, CF, dx, _, .ref p, rfl, s1 _ _ ha, FC.cl, FC.na, rfl, d, bs, dp_same s1 _ _ hx, dp_same s1 _ _ hd, plain_all allb, (bar_depth h1).2, Nat.le_trans (depth_all allb) (by decide), ?_⟩
      rw [if_neg Bool.false_ne_true]
      have := q H1 s1
      rw [h1, Bool.true_and] at this
      exact this
    · have := q H1 s1
      rw [Bool.eq_false_iff.mpr h1, Bool.false_and] at this
      exact this
theorem scEq : FnScope ["self", "other"] ["self", "other"] (defScope mEq) := ⟨rfl, rfl, rfl, by decide +kernel, rfl, by decide +kernel, by decide +kernel⟩
theorem ok_eqf {f : Addr} {fd : FuncData} (F : Fun K "__eq__" "Filter.__eq__" mEq f fd) (T : Sy mg) (FC : Fc K mg CF) : FnOk P w K mg base CX0 1 f fd ["self", "other"] (spEqF K CF) := by
  refine F.ok scEq (fun vs H Q E h => ?_) (fun cdv A outer s H vs Q E hr h => ?_)
  · obtain ⟨a, bs, y, o, rfl, _⟩ := h
    rfl
  · obtain ⟨a, bs, y, o, rfl, ⟨p, ⟨dx, ha⟩, hd⟩, allb, ho, q⟩ := h
    refine ⟨_, pss_one (ps_ret (pe_and (pe_callB call_isi (by rfl) T.isi PyProof.Rows.boot_isinstance (pa_cons (pv 1) (pa_cons (pe_glob (v := .ref CF) rfl FC.g rfl) pa_nil)))
      (pe_one (pe_cmpR (op_eqP hr.units) (pe_fld (pv 0) rfl) (pe_fld (pv 1) rfl) (nomark _))))), ?_⟩
    obtain ⟨t, ty, kt⟩ := oth_ty FC ho
    refine ⟨_, rfl, y, _, t, _, _, rfl, .own _, ty, kt, _, rfl, ?_⟩
    cases ho with
    | data d => exact q H (Same.rfl' H)
    | @fil b cs e fb cb =>
      subst e
      obtain ⟨pb, ⟨dy, hb⟩, hc⟩ := fb
      refine ⟨_, rfl, a, CF, dx, _, .ref p, rfl, ha, FC.cl, FC.na, rfl, _, rfl, b, CF, dy, _, .ref pb, rfl, hb, FC.cl, FC.na, rfl, _, _, hd, hc, plain_all allb, plain_all cb, ?_, ?_⟩
      · have := depth_all allb
        simp only [PyData.depth]
        omega
      · exact q H (Same.rfl' H)
end
end LR
set_option Elab.async false
set_option linter.all false
set_option maxRecDepth 100000
set_option maxHeartbeats 4000000
namespace LR
open PySem L2 CG SN KD
open PySem.W (kitOne Frag excIn keepIn subIn typeIn findIn)
/-! ### comprehensions over data: the list under way stands aside -/
def Hid (D : Addr) (H : Hp) : Hp := fun b => if b = D then none else H b
theorem hid_some {D b : Addr} {H : Hp} {o : HO} (h : Hid D H b = some o) : b ≠ D ∧ H b = some o := by
  unfold Hid at h
  split at h
  · cases h
  · rename_i n; exact ⟨n, h⟩
theorem hid_of {D b : Addr} {H : Hp} {o : HO} (n : b ≠ D) (h : H b = some o) : Hid D H b = some o := by unfold Hid; rw [if_neg n]; exact h
theorem hid_in {D : Addr} {H : Hp} : Same (Hid D H) H := fun b o e => (hid_some e).2
theorem hid_same {D : Addr} {H H' : Hp} (s : Same H H') : Same (Hid D H) (Hid D H') := fun b o e => hid_of (hid_some e).1 (s _ _ (hid_some e).2)
theorem hid_new {D : Addr} {H H' : Hp} (n : H D = none) (s : Same H H') : Same H (Hid D H') := fun b o e => hid_of (fun z => by rw [z, n] at e; cases e) (s _ _ e)
theorem hid_upd {D : Addr} {H : Hp} {o : HO} : Hid D (upd H D o) = Hid D H := by
  funext b
  unfold Hid
  split
  · rfl
  · rename_i n; exact upd_ne n
theorem dpAll_app {K : Frag} {H : Hp} : ∀ {xs ys : List V} {ds es : List PyData}, DpAll K H xs ds → DpAll K H ys es → DpAll K H (xs ++ ys) (ds ++ es)
  | _, _, _, _, .nil, h => h
  | _, _, _, _, .cons a t, h => .cons a (dpAll_app t h)
theorem lc_dp {K : Frag} {J : It} {n : Nat} {G : Hp → Prop} {Y : Nat → Hp → V → Hp → Prop} (w : Walk J n G Y) {tt : TT} {te : TE} {k : Nat} {σ : L2.St} {H1 : Hp} {D : Addr} {Qd : Hp → Prop} (cs : List PyData) (f : PyData → Bool) (g : PyData → PyData) (hc : cs.length = n) (hn : n < sizeLine) (nD : H1 D = none)
    (hw : ∀ x, wipe ((wipe σ [k]).set k (some x)) [k] = wipe σ [k]) (hG : ∀ H', Same H1 H' → G H')
    (hs : ∀ i d x H' H'', cs[i]? = some d → Same H1 H' → (∃ acc, H' D = some (.lst acc)) → Y i H' x H'' → H'' = H' ∧ (∀ R : Bool → Hp → Prop, (∀ H3, Same H' H3 → R (f d) H3) → tt ((wipe σ [k]).set k (some x)) H' R) ∧
      (f d = true → ∀ H3, Same H' H3 → ∀ R : VK, (∀ y H4, Same H3 H4 → Dp K (Hid D H4) y (g d) → R y H4) → te ((wipe σ [k]).set k (some x)) H3 R))
    (hd : ∀ H' acc, Same H1 H' → H' D = some (.lst acc) → DpAll K (Hid D H') acc ((cs.filter f).map g) → Qd H') :
    ∃ W : Nat → Nat → Hp → Prop, (∃ m, W 0 m (upd H1 D (.lst []))) ∧ ∀ i m H, W i m H →
      (J.stop i H ∧ Qd H) ∨ (J.go i H ∧ ∃ Nx : Hp → Prop, (∀ H', Nx H' → ∃ m', m' < m ∧ W (i + 1) m' H') ∧ ∀ x H', J.yld i H x H' → gName k x (wipe σ [k]) H' fun σ2 H2 => wipe σ2 [k] = wipe σ [k] ∧ tt σ2 H2 fun b H3 =>
        if b = true then te σ2 H3 fun y H4 => ∃ acc, H4 D = some (.lst acc) ∧ acc.length < sizeLine ∧ Nx (upd H4 D (.lst (acc ++ [y]))) else Nx H3) := by
  refine lc_it w (fun i H' => Same H1 H' ∧ ∃ acc, H' D = some (.lst acc) ∧ acc.length ≤ i ∧ DpAll K (Hid D H') acc (((cs.take i).filter f).map g)) ⟨same_upd nD, [], upd_same, Nat.le_refl _, by rw [List.take_zero]; exact .nil⟩ (fun i H' _ z => hG H' z.1) ?_
    (fun H' ⟨s, acc, a, _, dd⟩ => hd H' acc s a (by rw [← hc, List.take_length] at dd; exact dd))
  rintro i x H' H'' hi ⟨same, acc, at', la, dd⟩ hy
  obtain ⟨d, hd1⟩ : ∃ d, cs[i]? = some d := ⟨_, List.getElem?_eq_getElem (by omega)⟩
  obtain ⟨rfl, ht, he⟩ := hs i d x H' H'' hd1 same ⟨acc, at'⟩ hy
  have tk : cs.take (i + 1) = cs.take i ++ [d] := by rw [List.take_succ, hd1]; rfl
  refine ⟨hw x, ht _ fun H3 s3 => ?_⟩
  cases hb : f d with
  | false =>
    rw [if_neg (by decide)]
    refine ⟨same.trans s3, acc, s3 _ _ at', by omega, ?_⟩
    rw [tk, List.filter_append, List.filter_cons, hb, if_neg Bool.false_ne_true, List.filter_nil, List.append_nil]
    exact dpAll_same (hid_same s3) _ _ dd
  | true =>
    rw [if_pos rfl]
    refine he hb H3 s3 _ fun y H4 s4 dy => ⟨acc, s4 _ _ (s3 _ _ at'), by omega, ?_, acc ++ [y], upd_same, by rw [List.length_append]; exact Nat.succ_le_succ la, ?_⟩
    · intro c o z
      rw [upd_ne (ne_of_none z nD)]
      exact s4 _ _ (s3 _ _ (same _ _ z))
    · rw [hid_upd, tk, List.filter_append, List.filter_cons, hb, if_pos rfl, List.filter_nil, List.map_append]
      exact dpAll_app (dpAll_same (hid_same (s3.trans s4)) _ _ dd) (.cons dy .nil)
theorem op_inTk {X : Cx} {K : Frag} (hk : X.K = K) (hu : X.A.units + 64 < cLine) : OpR X (compareOp .In) (rInT K false) := by subst hk; exact op_inT hu
theorem op_notInTk {X : Cx} {K : Frag} (hk : X.K = K) (hu : X.A.units + 64 < cLine) : OpR X (compareOp .NotIn) (rInT K true) := by subst hk; exact op_notInT hu
/-- the property and the class's making, as other methods reach them -/
structure Cm (P : Program) (w : World) (K : Frag) (mg : Str → Option Value) (base : Heap) (CF cI cO : Addr) : Prop where
  sy : Sy mg
  fc : Fc K mg CF
  xI : Xc K mg "InvalidFilter" cI
  xO : Xc K mg "InvalidOperation" cO
  pr : ∃ p g fd, PropOf K CF "bars" p g ∧ FnOk P w K mg base CX0 1 g fd ["self"] (spBars K CF) ∧ Binds K fd ["self"] []
  make : ∃ f fd, Mk K CF f ∧ FnOk P w K mg base (L2.CX P w) 6 f fd ["self", "bars"] (spFInit K CF cI) ∧ Binds K fd ["self", "bars"] []
def partD (bs : List PyData) : Option (List PyData) → Bool | none => false | some cs => bs.all fun b => hasB cs b
def spPart (K : Frag) (CF : Addr) : Sp := fun vs H Q _ => ∃ (a : Addr) (bs : List PyData) (y : V) (o : Option (List PyData)), vs = [.ref a, y] ∧ FB K CF H a bs ∧ (∀ b ∈ bs, barB b = true) ∧ bs.length ≤ 60 ∧ Oth K CF H y o ∧ ∀ H', Same H H' → Q (.bl (partD bs o)) H'
section
variable {P : Program} {w : World} {K : Frag} {mg : Str → Option Value} {base : Heap} {CF cI cO : Addr}
abbrev NP : List Str := ["self", "value", "bar"]
theorem scPa : FnScope NP ["self", "value"] (defScope mPart) := ⟨rfl, rfl, rfl, by decide +kernel, rfl, by decide +kernel, by decide +kernel⟩
theorem ok_part {f : Addr} {fd : FuncData} (F : Fun K "is_part_of" "Filter.is_part_of" mPart f fd) (C : Cm P w K mg base CF cI cO) : FnOk P w K mg base CX0 3 f fd ["self", "value"] (spPart K CF) := by
  obtain ⟨pp, gp, dp, PR, GP, bP⟩ := C.pr
  have T := C.sy
  refine F.ok scPa (fun vs H Q E h => ?_) (fun cdv A outer s H vs Q E hr h => ?_)
  · obtain ⟨a, bs, y, o, rfl, _⟩ := h
    rfl
  · obtain ⟨a, bs, y, o, rfl, ⟨p, ⟨dx, ha⟩, hd⟩, allb, lb, ho, q⟩ := h
    refine ⟨_, pss_one (ps_ret (pe_and (pe_callB call_isi (by rfl) T.isi PyProof.Rows.boot_isinstance (pa_cons (pv 1) (pa_cons (pe_glob (v := .ref CF) rfl C.fc.g rfl) pa_nil)))
      (pe_one (pe_callB (cr_all rfl) (by rfl) T.all PyProof.Rows.boot_all (pa_cons (pe_lc (own := [("bar", 2)]) (g := gName 2) (tt := tYes) rfl scPa.nd (pi_tup (pe_fld (pv 0) rfl))
          (blkOk_by (N := NP) (sc := defScope mPart) (by decide +kernel)) (fun _ _ _ _ _ => pg_name (i := 2) scPa.nd rfl (Or.inl rfl)) (fun _ _ _ _ _ => pts_nil)
          (fun _ _ _ _ _ => pe_cmpR (op_inTk (K := K) rfl hr.units) (pv 2) (pe_prop (pv 1) C.fc.cl PR GP hr bP .nil pass0 rfl) (by rfl))) pa_nil))))), ?_⟩
    obtain ⟨t, ty, kt⟩ := oth_ty C.fc ho
    refine ⟨_, rfl, y, _, t, _, _, rfl, .own _, ty, kt, _, rfl, ?_⟩
    cases ho with
    | data d => exact q H (Same.rfl' H)
    | @fil b cs e fb cb =>
      subst e
      cases hd with
      | @tup _ xs _ hq hd =>
        have lx := dpAll_len hd
        obtain ⟨pb, ⟨dy, hb⟩, hc⟩ := fb
        refine ⟨_, rfl, a, CF, dx, _, .ref p, rfl, ha, C.fc.cl, C.fc.na, rfl, p, rfl, ⟨xs, hq⟩, fun D nD => ?_⟩
        refine lc_gen (walk_tup (xs := xs)) (fun _ => true) (fun i => .bl (hasB cs (bs.getD i .none))) (Nat.lt_of_le_of_lt (show xs.length ≤ 60 by omega) (by decide)) nD (fun _ => rfl) (fun H' s' => sqT_same s' hq) ?_ ?_
        · rintro i z H' H'' hi same ⟨rfl, hxi⟩
          obtain ⟨e, he, dz⟩ := dpAll_at hd i z hxi
          refine ⟨rfl, fun R h => h _ (fun _ _ e => e), fun _ H3 s3 R h => ?_⟩
          rw [List.getD_eq_getElem?_getD, he] at h
          have be := allb e (List.mem_of_getElem? he)
          refine ⟨_, rfl, _, rfl, b, dy, _, rfl, (s3 _ _ (same _ _ hb)), b, cs, rfl, ⟨pb, ⟨dy, s3 _ _ (same _ _ hb)⟩, dp_same (same.trans s3) _ _ hc⟩, fun p2 f2 d2 => ?_⟩
          refine ⟨e, cs, dp_same (same.trans s3) _ _ dz, d2, plain_all cb, (bar_depth be).2, Nat.le_trans (depth_all cb) (by decide), ?_⟩
          rw [if_neg Bool.false_ne_true]
          exact h _ (Same.rfl' _)
        · intro H1 s1 at1
          rw [filter_true] at at1
          refine ⟨D, (List.range bs.length).map fun i => hasB cs (bs.getD i .none), rfl, SqL.of (by rw [List.map_map, ← lx]; exact at1), ?_⟩
          have z := all_map bs (fun b => hasB cs b)
          rw [z]
          exact q H1 s1
end
end LR
set_option Elab.async false
set_option linter.all false
set_option maxRecDepth 100000
set_option maxHeartbeats 4000000
namespace LR
open PySem L2 CG SN KD
open PySem.W (kitOne Frag excIn keepIn subIn typeIn findIn)
/-! ### data and what they stand on -/
def IsSq : HO → Prop
  | .lst _ => True
  | .tup _ => True
  | .frz _ _ => True
  | _ => False
def SameQ (H H' : Hp) : Prop := ∀ b o, IsSq o → H b = some o → H' b = some o
theorem Same.q {H H' : Hp} (s : Same H H') : SameQ H H' := fun b o _ e => s b o e
theorem sqL_q {K : Frag} {H H' : Hp} {a : Addr} {xs : List V} (s : SameQ H H') (h : SqL K H a xs) : SqL K H' a xs := by
  rcases h with (h | ⟨o, h⟩) | h
  · exact .inl (.inl (s _ _ trivial h))
  · exact .inl (.inr ⟨o, s _ _ trivial h⟩)
  · exact .inr h
theorem sqT_q {K : Frag} {H H' : Hp} {a : Addr} {xs : List V} (s : SameQ H H') (h : SqT K H a xs) : SqT K H' a xs := by
  rcases h with (h | ⟨o, h⟩) | h
  · exact .inl (.inl (s _ _ trivial h))
  · exact .inl (.inr ⟨o, s _ _ trivial h⟩)
  · exact .inr h
mutual
theorem dp_q {K : Frag} {H H' : Hp} (s : SameQ H H') : ∀ (d : PyData) (x : V), Dp K H x d → Dp K H' x d
  | .none, _, h => by cases h; exact .non
  | .bool b, _, h => by cases h; exact .bl b
  | .int i, _, h => by cases h; exact .int i
  | .str z, _, h => by cases h; exact .str z
  | .list ds, _, h => by cases h with | lst q a => exact .lst (sqL_q s q) (dpAll_q s ds _ a)
  | .tuple ds, _, h => by cases h with | tup q a => exact .tup (sqT_q s q) (dpAll_q s ds _ a)
  | .dict _, _, h => by cases h
theorem dpAll_q {K : Frag} {H H' : Hp} (s : SameQ H H') : ∀ (ds : List PyData) (xs : List V), DpAll K H xs ds → DpAll K H' xs ds
  | [], _, h => by cases h; exact .nil
  | d :: ds, _, h => by cases h with | cons h1 h2 => exact .cons (dp_q s d _ h1) (dpAll_q s ds _ h2)
end
theorem upd_q {H : Hp} {a C dx C' dx' : Addr} {fs fs' : List (Str × V)} (h : H a = some (.ins C dx fs)) : SameQ H (upd H a (.ins C' dx' fs')) := fun b o q e => by
  rw [upd_ne]
  · exact e
  · rintro rfl
    rw [h] at e
    cases e
    exact q.elim
theorem tyx_same {K : Frag} {H H' : Hp} (s : Same H H') {x : V} {t : Value} (ty : TyX K H x t) : TyX K H' x t := by
  cases ty with
  | base b =>
    cases b with
    | non => exact .base .non
    | bl y => exact .base (.bl y)
    | int y => exact .base (.int y)
    | str y => exact .base (.str y)
    | flt y => exact .base (.flt y)
    | lst e => exact .base (.lst (s _ _ e))
    | frz e => exact .base (.frz (s _ _ e))
    | tup e => exact .base (.tup (s _ _ e))
    | dK e => exact .base (.dK (s _ _ e))
    | dT e => exact .base (.dT (s _ _ e))
    | ins e a b c d f => exact .base (.ins (s _ _ e) a b c d f)
  | byt b => exact .byt b
  | set e => exact .set (s _ _ e)
  | kList e c => exact .kList e c
  | kTuple e c => exact .kTuple e c
  | kDict e c => exact .kDict e c
  | fTuple e => exact .fTuple (s _ _ e)
  | fDict e => exact .fDict (s _ _ e)
/-- Filter(x), from what the new object's making asks -/
theorem mk_arg {K : Frag} {CF cI : Addr} {H1 : Hp} {x : V} {o : Option (List PyData)} {Q : VK} {E : XK} (arg : Arg K H1 x o)
    (qq : ∀ ds, o = some ds → goodB ds = true → ∀ H' b, Same H1 H' → H1 b = none → FB K CF H' b (sortD ds) → Q (.ref b) H') (ee : goodO o = false → ∀ H', Same H1 H' → E (.ref cI) none H') :
    ∀ y dy, H1 y = none → H1 dy = none → dy ≠ y → spFInit K CF cI [.ref y, x] (upd (upd H1 dy (.own y)) y (.ins CF dy [])) (fun v H2 => v = .non ∧ Q (.ref y) H2) E := by
  intro y dy ny ndy ne
  have s0 : Same H1 (upd (upd H1 dy (.own y)) y (.ins CF dy [])) := fun b o e => by
    rw [upd_ne (ne_of_none e ny), upd_ne (ne_of_none e ndy)]
    exact e
  refine ⟨y, dy, x, o, rfl, upd_same, ?_, fun ds e g H' p s np dp => ⟨rfl, ?_⟩, fun g H' s => ee g H' (s0.trans s)⟩
  · cases arg with
    | no t k => exact .no (tyx_same s0 t) k
    | yes d ok l => exact .yes (dp_same s0 _ _ d) ok l
  · have at0 := s _ _ (upd_same (H := upd H1 dy (.own y)) (a := y) (o := HO.ins CF dy []))
    refine qq ds e g _ y (fun b o z => ?_) ny ⟨p, ⟨dy, upd_same⟩, dp_q (upd_q at0) _ _ dp⟩
    rw [upd_ne (ne_of_none z ny)]
    exact s _ _ (s0 _ _ z)
end LR
set_option Elab.async false
set_option linter.all false
set_option maxRecDepth 100000
set_option maxHeartbeats 4000000
namespace LR
open PySem L2 CG SN KD
open PySem.W (kitOne Frag excIn keepIn subIn typeIn findIn)
/-! ### |, &, - -/
theorem bar_eqv {d e : PyData} (b : barB d = true) (c : barB e = true) : PyData.eqv d e = true ↔ d = e := by
  obtain ⟨h, o, i, n, rfl⟩ := bar_shape b
  obtain ⟨h', o', i', n', rfl⟩ := bar_shape c
  simp [PyData.eqv, PyData.eqvAll]
theorem hasB_iff {bs : List PyData} {d : PyData} (hb : ∀ b ∈ bs, barB b = true) (c : barB d = true) : hasB bs d = true ↔ d ∈ bs := by
  unfold hasB
  rw [List.any_eq_true]
  constructor
  · rintro ⟨x, hx, e⟩
    rw [← (bar_eqv (hb x hx) c).mp e]
    exact hx
  · intro h
    exact ⟨d, h, (bar_eqv c c).mpr rfl⟩
theorem bar_ok {d : PyData} (b : barB d = true) : okB d := by
  obtain ⟨h, o, i, n, rfl⟩ := bar_shape b
  have sm : ∀ z : Str, lO isName (some z) = true → z.length ≤ 10000 := fun z hz => by
    have hz : isName z.cps.toList = true := hz
    unfold isName isWord at hz
    simp only [Bool.and_eq_true, decide_eq_true_eq] at hz
    rw [len_cps]
    omega
  simp only [barB, Bool.and_eq_true] at b
  obtain ⟨⟨⟨b1, b2⟩, b3⟩, b4⟩ := b
  intro ds e
  cases e
  intro x hx z hz
  simp only [List.mem_cons, List.not_mem_nil, or_false] at hx
  rcases hx with rfl | rfl | rfl | rfl
  · cases hz
    unfold howB at b1
    simp only [Bool.or_eq_true, decide_eq_true_eq] at b1
    rcases b1 with (rfl | rfl) | rfl <;> decide +kernel
  · cases hz
    exact sm _ b2
  · cases hz
  · cases hz
    exact sm _ b4
def spOp (K : Frag) (CF cI cO : Addr) (r : List PyData → List PyData → List PyData) : Sp := fun vs H Q E => ∃ (a : Addr) (bs : List PyData) (y : V) (o : Option (List PyData)), vs = [.ref a, y] ∧ FB K CF H a bs ∧ goodB bs = true ∧ Oth K CF H y o ∧ (∀ cs, o = some cs → goodB cs = true) ∧
  (o = none → ∀ H', Same H H' → E (.ref cO) none H') ∧ (∀ cs, o = some cs → goodB (r bs cs) = true → ∀ H' b, Same H H' → H b = none → FB K CF H' b (sortD (r bs cs)) → Q (.ref b) H') ∧
  (∀ cs, o = some cs → goodB (r bs cs) = false → ∀ H', Same H H' → E (.ref cI) none H')
def rAndB (bs cs : List PyData) : List PyData := bs.filter (hasB cs)
def rSubB (bs cs : List PyData) : List PyData := bs.filter fun b => !hasB cs b
def rOrB (bs cs : List PyData) : List PyData := bs ++ cs.filter fun c => !hasB bs c
abbrev NO : List Str := ["self", "other", "bar"]
section
variable {P : Program} {w : World} {K : Frag} {mg : Str → Option Value} {base : Heap} {CF cI cO : Addr}
theorem scAn : FnScope NO ["self", "other"] (defScope mAnd) := ⟨rfl, rfl, rfl, by decide +kernel, rfl, by decide +kernel, by decide +kernel⟩
theorem scSu : FnScope NO ["self", "other"] (defScope mSub) := ⟨rfl, rfl, rfl, by decide +kernel, rfl, by decide +kernel, by decide +kernel⟩
theorem scOr : FnScope NO ["self", "other"] (defScope mOr) := ⟨rfl, rfl, rfl, by decide +kernel, rfl, by decide +kernel, by decide +kernel⟩
theorem map_id' (l : List PyData) : l.map (fun d => d) = l := by simp
theorem ok_and {f : Addr} {fd : FuncData} (F : Fun K "__and__" "Filter.__and__" mAnd f fd) (C : Cm P w K mg base CF cI cO) : FnOk P w K mg base (L2.CX P w) 8 f fd ["self", "other"] (spOp K CF cI cO rAndB) := by
  obtain ⟨pp, gp, dp, PR, GP, bP⟩ := C.pr
  obtain ⟨fm, dm, MK, GM, bM⟩ := C.make
  have T := C.sy
  refine F.okX scAn (fun vs H Q E h => ?_) (fun cdv A outer s H vs Q E hr h => ?_)
  · obtain ⟨a, bs, y, o, rfl, _⟩ := h
    rfl
  · obtain ⟨a, bs, y, o, rfl, ⟨p, ⟨dx, ha⟩, hd⟩, gb, ho, gc, e1, q, e2⟩ := h
    have hr2 : Room 2 _ := hr.mono (by decide)
    refine ⟨_, pss_cons (ps_if (pt_not (pt_val (pe_callB call_isi (by rfl) T.isi PyProof.Rows.boot_isinstance (pa_cons (pv 1) (pa_cons (pe_glob (v := .ref CF) rfl C.fc.g rfl) pa_nil)))))
        (pss_one (ps_raise rfl (takes_of rfl rfl rfl rfl) (pmk_own PySem.F.excBase_ValueError C.xO.x C.xO.g C.xO.k (raises_own C.xO.b C.xO.t) rfl))) pss_nil)
      (pss_one (ps_ret (pe_make MK GM hr rfl C.fc.g bM .nil (passes_call (takes_of rfl rfl rfl rfl) fun _ _ _ _ h => h) (pa_cons (pe_callTy call_tuple_of (by rfl) T.tuple PyProof.Rows.boot_tuple
        (pa_cons (pe_lc (own := [("bar", 2)]) (g := gName 2) rfl scAn.nd (pi_tup (pe_fld (pv 0) rfl))
          (blkOk_by (N := NO) (sc := defScope mAnd) (by decide +kernel)) (fun _ _ _ _ _ => pg_name (i := 2) scAn.nd rfl (Or.inl rfl))
          (fun _ _ _ _ _ => pts_one (pt_cmpR (op_inTk (K := K) rfl hr.units) (pv 2) (pe_prop (pv 1) C.fc.cl PR GP hr2 bP .nil pass0 rfl) (by rfl))) (fun _ _ _ _ _ => pv 2)) pa_nil)) pa_nil)))), ?_⟩
    obtain ⟨t, ty, kt⟩ := oth_ty C.fc ho
    obtain ⟨lb, allb, nb⟩ := goodB_of gb
    refine ⟨_, rfl, y, _, t, _, _, rfl, .own _, ty, kt, _, rfl, ?_⟩
    cases ho with
    | data d => exact e1 rfl H (Same.rfl' H)
    | @fil b cs e fb cb =>
      subst e
      cases hd with
      | @tup _ xs _ hq hd =>
        have lx := dpAll_len hd
        obtain ⟨pb, ⟨dy, hb⟩, hc⟩ := fb
        refine ⟨_, rfl, a, CF, dx, _, .ref p, rfl, ha, C.fc.cl, C.fc.na, rfl, p, rfl, ⟨xs, hq⟩, fun D nD => ?_⟩
        refine lc_dp (K := K) (walk_tup (xs := xs)) bs (hasB cs) (fun d => d) lx.symm (Nat.lt_of_le_of_lt (show xs.length ≤ 60 by omega) (by decide)) nD (fun _ => rfl) (fun H' s' => sqT_same s' hq) ?_ ?_
        · rintro i d z H' H'' hdi same _ ⟨rfl, hxi⟩
          obtain ⟨d', he, dz⟩ := dpAll_at hd i z hxi
          rw [hdi] at he
          cases he
          have be := allb d (List.mem_of_getElem? hdi)
          refine ⟨rfl, fun R h => ?_, fun _ H3 s3 R h => ⟨_, rfl, h z H3 (Same.rfl' _) (dp_same (hid_new nD (same.trans s3)) _ _ dz)⟩⟩
          refine ⟨_, rfl, _, rfl, b, dy, _, rfl, (same _ _ hb), b, cs, rfl, ⟨pb, ⟨dy, same _ _ hb⟩, dp_same same _ _ hc⟩, fun p2 f2 d2 => ?_⟩
          refine ⟨d, cs, dp_same same _ _ dz, d2, plain_all cb, (bar_depth be).2, Nat.le_trans (depth_all cb) (by decide), _, rfl, ?_⟩
          exact h _ (Same.rfl' _)
        · intro H1 acc s1 at1 dd
          rw [map_id'] at dd
          refine ⟨D, acc, rfl, .inl ⟨SqL.of at1, fun l nl => ?_⟩⟩
          have s2 := s1.trans (same_upd (o := .tup acc) nl)
          have nlH : H l = none := by
            cases z : H l with
            | none => rfl
            | some o => cases (s1 _ _ z).symm.trans nl
          have allr : ∀ d ∈ rAndB bs cs, barB d = true := fun d hd => allb d (List.mem_filter.mp hd).1
          refine mk_arg (o := some (rAndB bs cs)) (.yes (.tup (SqT.of upd_same) (dpAll_same (hid_in.trans (same_upd nl)) _ _ dd)) (fun d hd => bar_ok (allr d hd)) (Nat.le_trans (List.length_filter_le _ _) (by omega))) ?_ ?_
          · intro ds e g H' b' s' nb' fb'
            cases e
            refine q cs rfl g H' b' (s2.trans s') ?_ fb'
            cases z : H b' with
            | none => rfl
            | some o => cases (s2 _ _ z).symm.trans nb'
          · intro g H' s'
            exact e2 cs rfl g H' (s2.trans s')
end
end LR
set_option Elab.async false
set_option linter.all false
set_option maxRecDepth 100000
set_option maxHeartbeats 4000000
namespace LR
open PySem L2 CG SN KD
open PySem.W (kitOne Frag excIn keepIn subIn typeIn findIn)
section
variable {P : Program} {w : World} {K : Frag} {mg : Str → Option Value} {base : Heap} {CF cI cO : Addr}
theorem ok_sub {f : Addr} {fd : FuncData} (F : Fun K "__sub__" "Filter.__sub__" mSub f fd) (C : Cm P w K mg base CF cI cO) : FnOk P w K mg base (L2.CX P w) 8 f fd ["self", "other"] (spOp K CF cI cO rSubB) := by
  obtain ⟨pp, gp, dp, PR, GP, bP⟩ := C.pr
  obtain ⟨fm, dm, MK, GM, bM⟩ := C.make
  have T := C.sy
  refine F.okX scSu (fun vs H Q E h => ?_) (fun cdv A outer s H vs Q E hr h => ?_)
  · obtain ⟨a, bs, y, o, rfl, _⟩ := h
    rfl
  · obtain ⟨a, bs, y, o, rfl, ⟨p, ⟨dx, ha⟩, hd⟩, gb, ho, gc, e1, q, e2⟩ := h
    have hr2 : Room 2 _ := hr.mono (by decide)
    refine ⟨_, pss_cons (ps_if (pt_not (pt_val (pe_callB call_isi (by rfl) T.isi PyProof.Rows.boot_isinstance (pa_cons (pv 1) (pa_cons (pe_glob (v := .ref CF) rfl C.fc.g rfl) pa_nil)))))
        (pss_one (ps_raise rfl (takes_of rfl rfl rfl rfl) (pmk_own PySem.F.excBase_ValueError C.xO.x C.xO.g C.xO.k (raises_own C.xO.b C.xO.t) rfl))) pss_nil)
      (pss_one (ps_ret (pe_make MK GM hr rfl C.fc.g bM .nil (passes_call (takes_of rfl rfl rfl rfl) fun _ _ _ _ h => h) (pa_cons (pe_callTy call_tuple_of (by rfl) T.tuple PyProof.Rows.boot_tuple
        (pa_cons (pe_lc (own := [("bar", 2)]) (g := gName 2) rfl scSu.nd (pi_tup (pe_fld (pv 0) rfl))
          (blkOk_by (N := NO) (sc := defScope mSub) (by decide +kernel)) (fun _ _ _ _ _ => pg_name (i := 2) scSu.nd rfl (Or.inl rfl))
          (fun _ _ _ _ _ => pts_one (pt_cmpR (op_notInTk (K := K) rfl hr.units) (pv 2) (pe_prop (pv 1) C.fc.cl PR GP hr2 bP .nil pass0 rfl) (by rfl))) (fun _ _ _ _ _ => pv 2)) pa_nil)) pa_nil)))), ?_⟩
    obtain ⟨t, ty, kt⟩ := oth_ty C.fc ho
    obtain ⟨lb, allb, nb⟩ := goodB_of gb
    refine ⟨_, rfl, y, _, t, _, _, rfl, .own _, ty, kt, _, rfl, ?_⟩
    cases ho with
    | data d => exact e1 rfl H (Same.rfl' H)
    | @fil b cs e fb cb =>
      subst e
      cases hd with
      | @tup _ xs _ hq hd =>
        have lx := dpAll_len hd
        obtain ⟨pb, ⟨dy, hb⟩, hc⟩ := fb
        refine ⟨_, rfl, a, CF, dx, _, .ref p, rfl, ha, C.fc.cl, C.fc.na, rfl, p, rfl, ⟨xs, hq⟩, fun D nD => ?_⟩
        refine lc_dp (K := K) (walk_tup (xs := xs)) bs (fun b => !hasB cs b) (fun d => d) lx.symm (Nat.lt_of_le_of_lt (show xs.length ≤ 60 by omega) (by decide)) nD (fun _ => rfl) (fun H' s' => sqT_same s' hq) ?_ ?_
        · rintro i d z H' H'' hdi same _ ⟨rfl, hxi⟩
          obtain ⟨d', he, dz⟩ := dpAll_at hd i z hxi
          rw [hdi] at he
          cases he
          have be := allb d (List.mem_of_getElem? hdi)
          refine ⟨rfl, fun R h => ?_, fun _ H3 s3 R h => ⟨_, rfl, h z H3 (Same.rfl' _) (dp_same (hid_new nD (same.trans s3)) _ _ dz)⟩⟩
          refine ⟨_, rfl, _, rfl, b, dy, _, rfl, (same _ _ hb), b, cs, rfl, ⟨pb, ⟨dy, same _ _ hb⟩, dp_same same _ _ hc⟩, fun p2 f2 d2 => ?_⟩
          refine ⟨d, cs, dp_same same _ _ dz, d2, plain_all cb, (bar_depth be).2, Nat.le_trans (depth_all cb) (by decide), _, rfl, ?_⟩
          exact h _ (Same.rfl' _)
        · intro H1 acc s1 at1 dd
          rw [map_id'] at dd
          refine ⟨D, acc, rfl, .inl ⟨SqL.of at1, fun l nl => ?_⟩⟩
          have s2 := s1.trans (same_upd (o := .tup acc) nl)
          have nlH : H l = none := by
            cases z : H l with
            | none => rfl
            | some o => cases (s1 _ _ z).symm.trans nl
          have allr : ∀ d ∈ rSubB bs cs, barB d = true := fun d hd => allb d (List.mem_filter.mp hd).1
          refine mk_arg (o := some (rSubB bs cs)) (.yes (.tup (SqT.of upd_same) (dpAll_same (hid_in.trans (same_upd nl)) _ _ dd)) (fun d hd => bar_ok (allr d hd)) (Nat.le_trans (List.length_filter_le _ _) (by omega))) ?_ ?_
          · intro ds e g H' b' s' nb' fb'
            cases e
            refine q cs rfl g H' b' (s2.trans s') ?_ fb'
            cases z : H b' with
            | none => rfl
            | some o => cases (s2 _ _ z).symm.trans nb'
          · intro g H' s'
            exact e2 cs rfl g H' (s2.trans s')
end
end LR
set_option Elab.async false
set_option linter.all false
set_option maxRecDepth 100000
set_option maxHeartbeats 4000000
namespace LR
open PySem L2 CG SN KD
open PySem.W (kitOne Frag excIn keepIn subIn typeIn findIn)
theorem catA_of {K : Frag} {x y : V} {a b : Addr} {xs ys : List V} {H : Hp} {Q : VK} (ex : x = .ref a) (ey : y = .ref b) (ha : SqT K H a xs) (hb : SqT K H b ys) (hz : xs.length + ys.length ≤ sizeLine)
    (q : ∀ p H', Same H H' → SqT K H' p (xs ++ ys) → Q (.ref p) H') : rCatA K x y H Q :=
  ⟨a, b, xs, ys, ex, ey, ha, hb, hz, fun e => q b H (Same.rfl' H) (by rw [e, List.nil_append]; exact hb), fun _ e => q a H (Same.rfl' H) (by rw [e, List.append_nil]; exact ha),
    fun _ _ p np => q p _ (same_upd np) (SqT.of upd_same)⟩
section
variable {P : Program} {w : World} {K : Frag} {mg : Str → Option Value} {base : Heap} {CF cI cO : Addr}
theorem pe_fldK {X : Cx} {e : Expr} {ta : TE} {f : Str} {pos} (hk : X.K = K) (he : PE X e ta) (hb : attributeBase e f X.env (eval e X.env) = eval e X.env) : PE X (.Attribute e f pos) (tFld K ta f) := by subst hk; exact pe_fld he hb
theorem op_catK {X : Cx} (hk : X.K = K) : OpR X (binaryOp .Add) (rCatA K) := by subst hk; exact op_catA
theorem ok_or {f : Addr} {fd : FuncData} (F : Fun K "__or__" "Filter.__or__" mOr f fd) (C : Cm P w K mg base CF cI cO) : FnOk P w K mg base (L2.CX P w) 8 f fd ["self", "other"] (spOp K CF cI cO rOrB) := by
  obtain ⟨pp, gp, dp, PR, GP, bP⟩ := C.pr
  obtain ⟨fm, dm, MK, GM, bM⟩ := C.make
  have T := C.sy
  refine F.okX scOr (fun vs H Q E h => ?_) (fun cdv A outer s H vs Q E hr h => ?_)
  · obtain ⟨a, bs, y, o, rfl, _⟩ := h
    rfl
  · obtain ⟨a, bs, y, o, rfl, ⟨p, ⟨dx, ha⟩, hd⟩, gb, ho, gc, e1, q, e2⟩ := h
    have hr2 : Room 2 _ := hr.mono (by decide)
    refine ⟨_, pss_cons (ps_if (pt_not (pt_val (pe_callB call_isi (by rfl) T.isi PyProof.Rows.boot_isinstance (pa_cons (pv 1) (pa_cons (pe_glob (v := .ref CF) rfl C.fc.g rfl) pa_nil)))))
        (pss_one (ps_raise rfl (takes_of rfl rfl rfl rfl) (pmk_own PySem.F.excBase_ValueError C.xO.x C.xO.g C.xO.k (raises_own C.xO.b C.xO.t) rfl))) pss_nil)
      (pss_one (ps_ret (pe_make MK GM hr rfl C.fc.g bM .nil (passes_call (takes_of rfl rfl rfl rfl) fun _ _ _ _ h => h) (pa_cons (pe_op (op_catK (K := K) rfl) (pe_fld (pv 0) rfl) (pe_callTy call_tuple_of (by rfl) T.tuple PyProof.Rows.boot_tuple
        (pa_cons (pe_lc (own := [("bar", 2)]) (g := gName 2) rfl scOr.nd (pi_tup (pe_prop (pv 1) C.fc.cl PR GP hr2 bP .nil pass0 rfl))
          (blkOk_by (N := NO) (sc := defScope mOr) (by decide +kernel)) (fun _ _ _ _ _ => pg_name (i := 2) scOr.nd rfl (Or.inl rfl))
          (fun _ _ _ _ _ => pts_one (pt_cmpR (op_notInTk (K := K) rfl hr.units) (pv 2) (pe_fldK (K := K) rfl (pv 0) rfl) (by rfl))) (fun _ _ _ _ _ => pv 2)) pa_nil))) pa_nil)))), ?_⟩
    obtain ⟨t, ty, kt⟩ := oth_ty C.fc ho
    obtain ⟨lb, allb, nb⟩ := goodB_of gb
    refine ⟨_, rfl, y, _, t, _, _, rfl, .own _, ty, kt, _, rfl, ?_⟩
    cases ho with
    | data d => exact e1 rfl H (Same.rfl' H)
    | @fil b cs e fb cb =>
      subst e
      obtain ⟨lc, allc, nc⟩ := goodB_of (gc cs rfl)
      obtain ⟨pb, ⟨dy, hb⟩, hc⟩ := fb
      refine ⟨_, rfl, a, CF, dx, _, .ref p, rfl, ha, C.fc.cl, C.fc.na, rfl, _, rfl, b, dy, _, rfl, hb, b, cs, rfl, ⟨pb, ⟨dy, hb⟩, hc⟩, fun p2 f2 d2 => ?_⟩
      cases d2 with
      | @tup _ xs _ hq hd2 =>
        have lx := dpAll_len hd2
        refine ⟨p2, rfl, ⟨xs, hq⟩, fun D nD => ?_⟩
        refine lc_dp (K := K) (walk_tup (xs := xs)) cs (fun c => !hasB bs c) (fun d => d) lx.symm (Nat.lt_of_le_of_lt (show xs.length ≤ 60 by omega) (by decide)) nD (fun _ => rfl) (fun H' s' => sqT_same s' hq) ?_ ?_
        · rintro i d z H' H'' hdi same _ ⟨rfl, hxi⟩
          obtain ⟨d', he, dz⟩ := dpAll_at hd2 i z hxi
          rw [hdi] at he
          cases he
          have be := allc d (List.mem_of_getElem? hdi)
          refine ⟨rfl, fun R h => ?_, fun _ H3 s3 R h => ⟨_, rfl, h z H3 (Same.rfl' _) (dp_same (hid_new nD (same.trans s3)) _ _ dz)⟩⟩
          refine ⟨_, rfl, _, rfl, a, CF, dx, _, .ref p, rfl, same _ _ ha, C.fc.cl, C.fc.na, rfl, ?_⟩
          refine ⟨d, bs, dp_same same _ _ dz, dp_same same _ _ hd, plain_all allb, (bar_depth be).2, Nat.le_trans (depth_all allb) (by decide), _, rfl, ?_⟩
          exact h _ (Same.rfl' _)
        · intro H1 acc s1 at1 dd
          rw [map_id'] at dd
          refine ⟨D, acc, rfl, .inl ⟨SqL.of at1, fun l nl => ?_⟩⟩
          have s2 := s1.trans (same_upd (o := .tup acc) nl)
          have da : DpAll K _ acc _ := dpAll_same (hid_in.trans (same_upd (o := .tup acc) nl)) _ _ dd
          cases dp_same s2 _ _ hd with
          | @tup _ ys _ hq3 hd3 =>
          have la := dpAll_len da
          have ly := dpAll_len hd3
          have lf : (cs.filter fun c => !hasB bs c).length ≤ cs.length := List.length_filter_le _ _
          refine catA_of rfl rfl hq3 (SqT.of upd_same) (Nat.le_trans (show ys.length + acc.length ≤ 120 by omega) (by decide)) fun r H2 s3 hr3 => ?_
          have s4 := s2.trans s3
          have allr : ∀ d ∈ rOrB bs cs, barB d = true := fun d hd => by
            rcases List.mem_append.mp hd with z | z
            · exact allb d z
            · exact allc d (List.mem_filter.mp z).1
          refine mk_arg (o := some (rOrB bs cs)) (.yes (.tup hr3 (dpAll_app (dpAll_same s3 _ _ hd3) (dpAll_same s3 _ _ da))) (fun d hd => bar_ok (allr d hd)) ?_) ?_ ?_
          · show (bs ++ _).length ≤ 20000
            rw [List.length_append]
            omega
          · intro ds e g H' b' s' nb' fb'
            cases e
            refine q cs rfl g H' b' (s4.trans s') ?_ fb'
            cases z : H b' with
            | none => rfl
            | some o => cases (s4 _ _ z).symm.trans nb'
          · intro g H' s'
            exact e2 cs rfl g H' (s4.trans s')
end
end LR
set_option Elab.async false
set_option linter.all false
set_option maxRecDepth 100000
set_option maxHeartbeats 4000000
namespace LR
open PySem L2 CG SN KD
/-! ### the order of bars -/
theorem dLe_iff (a b : PyData) : dLe a b = !(PySem.W.dataLt b a) := rfl
theorem dLe_trans (a b c : PyData) (h1 : dLe a b = true) (h2 : dLe b c = true) : dLe a c = true := by
  rw [dLe_iff] at *
  simp only [Bool.not_eq_true'] at *
  cases h : PySem.W.dataLt c a with
  | false => rfl
  | true =>
    rcases PyProof.Rows.lex_negTrans (O := PyProof.Rows.itemOrd) _ (PySem.W.keyToks b) _ h with z | z
    · exact absurd z (by unfold PySem.W.dataLt at h2; rw [h2]; decide)
    · exact absurd z (by unfold PySem.W.dataLt at h1; rw [h1]; decide)
theorem dLe_total (a b : PyData) : (dLe a b || dLe b a) = true := by
  rw [dLe_iff, dLe_iff]
  cases h1 : PySem.W.dataLt b a with
  | false => rfl
  | true =>
    cases h2 : PySem.W.dataLt a b with
    | false => rfl
    | true =>
      have z := PyProof.Rows.lex_trans (O := PyProof.Rows.itemOrd) _ _ _ h1 h2
      rw [PyProof.Rows.lex_irrefl] at z
      cases z
theorem dLe_anti {d e : PyData} (b : barB d = true) (c : barB e = true) (h1 : dLe d e = true) (h2 : dLe e d = true) : d = e := by
  rw [dLe_iff] at h1 h2
  simp only [Bool.not_eq_true'] at h1 h2
  have k : PySem.W.keyToks d = PySem.W.keyToks e := PyProof.Rows.lex_total (O := PyProof.Rows.itemOrd) _ _ h2 h1
  cases q : PyData.eqv d e with
  | true => exact (bar_eqv b c).mp q
  | false =>
    have z := (PySem.W.toks_eqv d e (bar_alike b c)).2 q [] [.inl 0]
    rw [k, PySem.W.lex_pre, PyProof.Rows.lex_irrefl] at z
    exact absurd z (by decide)
theorem sortD_sorted (ds : List PyData) : (sortD ds).Pairwise fun a b => dLe a b = true := List.pairwise_mergeSort dLe_trans (fun a b => dLe_total a b) ds
theorem sortD_eq {bs cs : List PyData} (b : ∀ d ∈ bs, barB d = true) (p : bs.Perm cs) : sortD bs = sortD cs := by
  have q : (sortD bs).Perm (sortD cs) := (sortD_perm bs).trans (p.trans (sortD_perm cs).symm)
  refine List.Perm.eq_of_pairwise (le := fun a b => dLe a b = true) (fun x y hx hy h1 h2 => dLe_anti (b x ((sortD_perm bs).mem_iff.mp hx)) (b y (p.mem_iff.mpr ((sortD_perm cs).mem_iff.mp hy))) h1 h2) (sortD_sorted bs) (sortD_sorted cs) q
/-! ### good rows of bars -/
theorem nodup_keys {ds : List PyData} (b : ∀ d ∈ ds, barB d = true) : (ds.map barKey).Nodup ↔ ds.Nodup := by
  constructor
  · intro h
    exact (List.pairwise_map.mp h).imp fun n e => n (by rw [e])
  · intro h
    exact List.pairwise_map.mpr (List.Pairwise.imp_of_mem (fun ha hb n e => n (barKey_inj (b _ ha) (b _ hb) e)) h)
theorem goodB_iff {ds : List PyData} : goodB ds = true ↔ ds.length ≤ 60 ∧ (∀ d ∈ ds, barB d = true) ∧ ds.Nodup := by
  constructor
  · intro g
    obtain ⟨a, b, c⟩ := goodB_of g
    exact ⟨a, b, (nodup_keys b).mp c⟩
  · rintro ⟨a, b, c⟩
    unfold goodB
    rw [decide_eq_true a, List.all_eq_true.mpr b, decide_eq_true ((nodup_keys b).mpr c)]
    rfl
theorem goodB_perm {bs cs : List PyData} (p : bs.Perm cs) : goodB bs = goodB cs := by
  rw [Bool.eq_iff_iff, goodB_iff, goodB_iff, p.length_eq, p.nodup_iff]
  constructor <;> rintro ⟨a, b, c⟩ <;> exact ⟨a, fun d hd => b d (by first | exact p.mem_iff.mpr hd | exact p.mem_iff.mp hd), c⟩
theorem goodB_sort (bs : List PyData) : goodB (sortD bs) = goodB bs := goodB_perm (sortD_perm bs)
theorem hasB_perm {bs cs : List PyData} (p : bs.Perm cs) (d : PyData) : hasB bs d = hasB cs d := by
  unfold hasB
  rw [Bool.eq_iff_iff, List.any_eq_true, List.any_eq_true]
  constructor <;> rintro ⟨x, hx, e⟩ <;> exact ⟨x, by first | exact p.mem_iff.mp hx | exact p.mem_iff.mpr hx, e⟩
theorem and_perm {bs bs' cs cs' : List PyData} (p : bs.Perm bs') (q : cs.Perm cs') : (rAndB bs cs).Perm (rAndB bs' cs') := by
  unfold rAndB
  rw [show hasB cs = hasB cs' from funext fun d => hasB_perm q d]
  exact p.filter _
theorem sub_perm {bs bs' cs cs' : List PyData} (p : bs.Perm bs') (q : cs.Perm cs') : (rSubB bs cs).Perm (rSubB bs' cs') := by
  unfold rSubB
  rw [show hasB cs = hasB cs' from funext fun d => hasB_perm q d]
  exact p.filter _
theorem or_perm {bs bs' cs cs' : List PyData} (p : bs.Perm bs') (q : cs.Perm cs') : (rOrB bs cs).Perm (rOrB bs' cs') := by
  unfold rOrB
  rw [show hasB bs = hasB bs' from funext fun d => hasB_perm p d]
  exact p.append (q.filter _)
theorem good_and {bs cs : List PyData} (g : goodB bs = true) : goodB (rAndB bs cs) = true := by
  obtain ⟨a, b, c⟩ := goodB_iff.mp g
  exact goodB_iff.mpr ⟨Nat.le_trans (List.length_filter_le _ _) a, fun d hd => b d (List.mem_filter.mp hd).1, c.filter _⟩
theorem good_sub {bs cs : List PyData} (g : goodB bs = true) : goodB (rSubB bs cs) = true := by
  obtain ⟨a, b, c⟩ := goodB_iff.mp g
  exact goodB_iff.mpr ⟨Nat.le_trans (List.length_filter_le _ _) a, fun d hd => b d (List.mem_filter.mp hd).1, c.filter _⟩
theorem good_or {bs cs : List PyData} (g : goodB bs = true) (h : goodB cs = true) : goodB (rOrB bs cs) = decide ((rOrB bs cs).length ≤ 60) := by
  obtain ⟨a, b, c⟩ := goodB_iff.mp g
  obtain ⟨a', b', c'⟩ := goodB_iff.mp h
  rw [Bool.eq_iff_iff, goodB_iff, decide_eq_true_eq]
  refine ⟨fun z => z.1, fun z => ⟨z, fun d hd => ?_, ?_⟩⟩
  · rcases List.mem_append.mp hd with z | z
    · exact b d z
    · exact b' d (List.mem_filter.mp z).1
  · refine List.nodup_append.mpr ⟨c, c'.filter _, fun x hx y hy e => ?_⟩
    subst e
    have z := (List.mem_filter.mp hy).2
    rw [(hasB_iff b (b x hx)).mpr hx] at z
    cases z
end LR
set_option Elab.async false
set_option linter.all false
set_option maxRecDepth 100000
set_option maxHeartbeats 4000000
namespace LR
open PySem L2 CG SN KD
open PySem.W (kitOne Frag excIn keepIn subIn typeIn findIn)
/-! ### the law's own look at bars -/
def sgn1 (c : Nat) : Str := ⟨#[c]⟩
theorem lt_one (a c : Nat) : decide ((⟨#[c]⟩ : Str).cps.toList < (⟨#[a]⟩ : Str).cps.toList) = decide (c < a) := by
  congr 1
  show ([c] < [a]) = (c < a)
  rw [eq_iff_iff]
  simp [List.cons_lt_cons_iff]
theorem filt_small (l : List Nat) : ((((List.range l.length).filter fun i => !low (l.getD i 0)).map fun i => sgn1 (l.getD i 0)) = []) ↔ smallL l = true := by
  rw [List.map_eq_nil_iff, List.filter_eq_nil_iff]
  unfold smallL
  rw [List.all_eq_true]
  constructor
  · intro h x hx
    obtain ⟨i, hi, rfl⟩ := List.mem_iff_getElem.mp hx
    have := h i (List.mem_range.mpr hi)
    rw [List.getD_eq_getElem?_getD, List.getElem?_eq_getElem hi] at this
    simpa using this
  · intro h i hi
    have hi' := List.mem_range.mp hi
    rw [List.getD_eq_getElem?_getD, List.getElem?_eq_getElem hi']
    have := h _ (List.getElem_mem hi')
    simpa using this
theorem dp_strs {K : Frag} {H : Hp} : ∀ zs : List Str, DpAll K H (zs.map V.str) (zs.map PyData.str)
  | [] => .nil
  | z :: zs => .cons (.str z) (dp_strs zs)
theorem eqv_nil (zs : List Str) : PyData.eqv (.list (zs.map PyData.str)) (.list []) = zs.isEmpty := by
  cases zs <;> rfl
theorem plain_strs : ∀ zs : List Str, PyData.plainAll (zs.map PyData.str) = true
  | [] => rfl
  | z :: zs => by show (true && PyData.plainAll (zs.map PyData.str)) = true; rw [plain_strs zs]; rfl
theorem depth_strs : ∀ zs : List Str, PyData.depthAll (zs.map PyData.str) = 0
  | [] => by simp [PyData.depthAll]
  | z :: zs => by simp [PyData.depthAll, PyData.depth, depth_strs zs]
def spIsB (K : Frag) : Sp := fun vs H Q _ => ∃ (x : V) (d : PyData), vs = [x] ∧ Dp K H x d ∧ okB d ∧ d.plain = true ∧ ∀ H', Same H H' → Q (.bl (barB d)) H'
abbrev NIB : List Str := ["_law_value", "_law_one", "_law_sign"]
theorem nameD_of (d : PyData) : nameD d = match d with | .str z => decide (1 ≤ z.length ∧ z.length ≤ 8) && (!decide (z = "shift") && !decide (z = "accept")) && smallL z.cps.toList | _ => false := by
  cases d with
  | str z =>
    show (isWord z.cps.toList && !decide (z.cps.toList = [115, 104, 105, 102, 116]) && !decide (z.cps.toList = [97, 99, 99, 101, 112, 116])) = _
    unfold isWord
    rw [← len_cps]
    have e1 : (z = Str.ofString "shift") ↔ (z.cps.toList = [115, 104, 105, 102, 116]) := by rw [str_ext, show (Str.ofString "shift").cps.toList = [115, 104, 105, 102, 116] by decide +kernel]
    have e2 : (z = Str.ofString "accept") ↔ (z.cps.toList = [97, 99, 99, 101, 112, 116]) := by rw [str_ext, show (Str.ofString "accept").cps.toList = [97, 99, 99, 101, 112, 116] by decide +kernel]
    show _ = (decide _ && (!decide (z = Str.ofString "shift") && !decide (z = Str.ofString "accept")) && _)
    rw [decide_eq_decide.mpr e1, decide_eq_decide.mpr e2]
    generalize decide (1 ≤ z.length ∧ z.length ≤ 8) = a
    generalize smallL z.cps.toList = b
    generalize decide (z.cps.toList = [115, 104, 105, 102, 116]) = c
    generalize decide (z.cps.toList = [97, 99, 99, 101, 112, 116]) = e
    cases a <;> cases b <;> cases c <;> cases e <;> rfl
  | _ => rfl
theorem acts_in (z : Str) : inV (.str z) [.str "shift", .str "accept"] = (decide (z = "shift") || decide (z = "accept")) := by
  show ((Str.ofString "shift" == z) || ((Str.ofString "accept" == z) || false)) = _
  have s : ∀ y : Str, (y == z) = decide (z = y) := fun y => by
    rw [Bool.eq_iff_iff, beq_iff_eq, decide_eq_true_eq]
    exact eq_comm
  rw [s, s, Bool.or_false]
theorem hows_any (d : PyData) : ([PyData.str "child", .str "left", .str "right"].any fun z => PyData.eqv z d) = howB d := by
  cases d with
  | str z =>
    show ((Str.ofString "child" == z) || ((Str.ofString "left" == z) || ((Str.ofString "right" == z) || false))) = (decide (z = Str.ofString "child") || decide (z = Str.ofString "left") || decide (z = Str.ofString "right"))
    have s : ∀ y : Str, (y == z) = decide (z = y) := fun y => by
      rw [Bool.eq_iff_iff, beq_iff_eq, decide_eq_true_eq]
      exact eq_comm
    rw [s, s, s, Bool.or_false, ← Bool.or_assoc]
  | _ => rfl
section
variable {P : Program} {w : World} {K : Frag} {mg : Str → Option Value} {base : Heap}
theorem op_neK {X : Cx} (hk : X.K = K) (hu : X.A.units + 64 < cLine) : OpR X (compareOp .NotEq) (rEqP K true) := by subst hk; exact op_neP hu
theorem scIL : FnScope NIB ["_law_value"] (defScope sIsBarL) := ⟨rfl, rfl, rfl, by decide +kernel, rfl, by decide +kernel, by decide +kernel⟩
theorem ok_isbarL {f : Addr} {fd : FuncData} (F : Fun K "_law_is_bar" "_law_is_bar" sIsBarL f fd) (T : Sy mg) : FnOk P w K mg base CX0 1 f fd ["_law_value"] (spIsB K) := by
  refine F.ok scIL (fun vs H Q E h => ?_) (fun cdv A outer s H vs Q E hr h => ?_)
  · obtain ⟨x, d, rfl, _⟩ := h
    rfl
  · obtain ⟨x, d, rfl, hx, ok, pl, q⟩ := h
    refine ⟨_, pss_cons (ps_if (PW.pt (pw_or (pt_not (pt_val (pe_callB call_isi (by rfl) T.isi PyProof.Rows.boot_isinstance (pa_cons (pv 0) (pa_cons (pe_bltn (v := .ty "tuple") (by rfl) T.tuple PyProof.Rows.boot_tuple rfl) pa_nil)))))
        (pw_or (pt_cmpR op_ne (pe_callB call_len_seq (by rfl) T.len PySem.boot_len (pa_cons (pv 0) pa_nil)) pe_int (nomark _))
        (pw_or1 (pt_cmpR (op_notInL hr.units) (pe_ix ix_tup (pv 0) pe_int (fun _ _ => rfl)) (pe_lst (pa_cons pe_str (pa_cons pe_str (pa_cons pe_str pa_nil)))) (by rfl))))))
        (pss_one (ps_ret pe_bl)) pss_nil)
      (pss_cons (ps_if (PW.pt (pw_or (pt_not (pt_val (pe_callB call_isi (by rfl) T.isi PyProof.Rows.boot_isinstance (pa_cons (pe_ix ix_tup (pv 0) pe_int (fun _ _ => rfl)) (pa_cons (pe_bltn (v := .ty "int") (by rfl) T.int PyProof.Rows.boot_int rfl) pa_nil)))))
        (pw_or (pt_val (pe_callB call_isi (by rfl) T.isi PyProof.Rows.boot_isinstance (pa_cons (pe_ix ix_tup (pv 0) pe_int (fun _ _ => rfl)) (pa_cons (pe_bltn (v := .ty "bool") (by rfl) T.bool PyProof.Rows.boot_bool rfl) pa_nil))))
        (pw_or1 (pt_not (pt_chain op_le op_le pe_int (pe_ix ix_tup (pv 0) pe_int (fun _ _ => rfl)) pe_int))))))
        (pss_one (ps_ret pe_bl)) pss_nil)
      (pss_cons (ps_for PassesOwn.never rfl (pi_list (pe_lst (pa_cons (pe_ix ix_tup (pv 0) pe_int (fun _ _ => rfl)) (pa_cons (pe_ix ix_tup (pv 0) pe_int (fun _ _ => rfl)) pa_nil)))) (pg_name (i := 1) scIL.nd rfl (Or.inl rfl))
        (pss_cons (ps_if (PW.pt (pw_or (pt_not (pt_val (pe_callB call_isi (by rfl) T.isi PyProof.Rows.boot_isinstance (pa_cons (pv 1) (pa_cons (pe_bltn (v := .ty "str") (by rfl) T.str PyProof.Rows.boot_str rfl) pa_nil)))))
          (pw_or (pt_not (pt_chain op_le op_le pe_int (pe_callB call_len_str (by rfl) T.len PySem.boot_len (pa_cons (pv 1) pa_nil)) pe_int))
          (pw_or1 (pt_cmpR op_in_seq (pv 1) (pe_lst (pa_cons pe_str (pa_cons pe_str pa_nil))) (by rfl))))))
          (pss_one (ps_ret pe_bl)) pss_nil)
        (pss_one (ps_if (pt_cmpR (op_neK (K := K) rfl hr.units) (pe_lc (own := [("_law_sign", 2)]) (g := gName 2) rfl scIL.nd (pi_str (pv 1))
            (blkOk_by (N := NIB) (sc := defScope sIsBarL) (by decide +kernel)) (fun _ _ _ _ _ => pg_name (i := 2) scIL.nd rfl (Or.inl rfl))
            (fun _ _ _ _ _ => pts_one (pt_not (pt_chain op_le_str op_le_str pe_str (pv 2) pe_str))) (fun _ _ _ _ _ => pv 2)) (pe_lst pa_nil) (nomark _))
          (pss_one (ps_ret pe_bl)) pss_nil))))
      (pss_one (ps_ret pe_bl)))), ?_⟩
    obtain ⟨t, _, ty⟩ := dp_ty hx
    refine ⟨_, rfl, x, _, t, _, _, rfl, .ty _, ty.ty, ty.tup, _, rfl, ?_⟩
    cases d with
    | tuple ds =>
      cases hx with
      | @tup p xs _ hq hd =>
        have len := dpAll_len hd
        refine ⟨_, rfl, p, xs, rfl, .inr hq, rfl, _, rfl, ite2 (fun h1 => ?_) (fun h1 => ?_)⟩
        · have e : barB (.tuple ds) = false := barB_len fun z => by
            rw [len, z] at h1
            exact absurd h1 (by decide)
          rw [e] at q
          exact q H (Same.rfl' H)
        · have z : xs.length = 4 := by
            refine Classical.byContradiction fun n => h1 ?_
            show (!decide (V.int (xs.length : Int) = V.int 4)) = true
            rw [decide_eq_false (fun hh => n (by injection hh with hh; omega))]
            rfl
          obtain ⟨x1, x2, x3, x4, h, o, i, n, rfl, rfl, d1, d2, d3, d4⟩ := dpAll4 hd z
          have okk := ok _ rfl
          have plh : h.plain = true := by
            have z : (h.plain && PyData.plainAll [o, i, n]) = true := pl
            exact (Bool.and_eq_true_iff.mp z).1
          rw [show barB (.tuple [h, o, i, n]) = (howB h && nameD o && idxB i && nameD n) from rfl] at q
          have at2 : ∀ {H' : Hp}, Same H H' → SqT K H' p [x1, x2, x3, x4] := fun s' => sqT_same s' hq
          refine ⟨_, rfl, p, _, _, x1, rfl, rfl, hq, rfl, by show 3 ≤ sizeLine; decide, fun l0 nl0 => ?_⟩
          have s1 : Same H (upd H l0 (.lst [.str "child", .str "left", .str "right"])) := same_upd nl0
          refine ⟨h, [.str "child", .str "left", .str "right"], dp_same s1 _ _ d1, .lst (SqL.of upd_same) (dp_strs [Str.ofString "child", Str.ofString "left", Str.ofString "right"]), rfl, plh, by decide +kernel, _, rfl, ?_⟩
          rw [if_pos rfl, hows_any]
          cases z1 : howB h with
          | false =>
            rw [z1] at q
            exact q _ s1
          | true =>
            rw [z1, Bool.true_and] at q
            have d3' := dp_same s1 _ _ d3
            obtain ⟨t3, _, ty3⟩ := dp_ty d3'
            refine ⟨_, rfl, p, _, _, x3, rfl, rfl, at2 s1, rfl, x3, _, t3, _, _, rfl, .ty _, ty3.ty, ty3.int, _, rfl, ?_⟩
            cases i with
            | bool b =>
              rw [show idxB (.bool b) = false from rfl, Bool.and_false, Bool.false_and] at q
              exact ⟨_, rfl, p, _, _, x3, rfl, rfl, at2 s1, rfl, x3, _, t3, _, _, rfl, .ty _, ty3.ty, ty3.bl, _, rfl, q _ s1⟩
            | int j =>
              refine ⟨_, rfl, p, _, _, x3, rfl, rfl, at2 s1, rfl, x3, _, t3, _, _, rfl, .ty _, ty3.ty, ty3.bl, _, rfl, ?_⟩
              cases d3
              have ej : idxB (.int j) = (decide (0 ≤ j) && decide (j ≤ 4)) := by
                show (decide (0 ≤ j) && decide (j < 5)) = _
                rw [show decide (j < 5) = decide (j ≤ 4) from decide_eq_decide.mpr ⟨fun h => by omega, fun h => by omega⟩]
              rw [ej] at q
              refine ⟨_, rfl, p, _, _, .int j, rfl, rfl, at2 s1, rfl, _, _, rfl, rfl, _, rfl, ite2 (fun h2 => ?_) (fun h2 => ?_)⟩
              rotate_left
              · rw [Bool.eq_false_iff.mpr h2, Bool.false_and, Bool.and_false, Bool.false_and] at q
                exact ⟨_, rfl, q _ s1⟩
              · rw [h2, Bool.true_and] at q
                refine ⟨_, _, rfl, rfl, _, rfl, ?_⟩
                cases h3 : decide (j ≤ 4) with
                | false =>
                  rw [h3, Bool.and_false, Bool.false_and] at q
                  exact q _ s1
                | true =>
                  rw [h3, Bool.and_true] at q
                  refine ⟨_, rfl, p, _, _, x2, rfl, rfl, at2 s1, rfl, _, rfl, p, _, _, x4, rfl, rfl, at2 s1, rfl, (by show 2 ≤ sizeLine; decide), fun l nl => ⟨l, rfl, ⟨_, SqL.of upd_same⟩, ?_⟩⟩
                  have s2 := s1.trans (same_upd (o := .lst [x2, x4]) nl)
                  refine for_list (xs := [x2, x4]) (fun i σ H' => ∃ v, σ = [some (.ref p), v, none] ∧ Same H H' ∧ H' l = some (.lst [x2, x4]) ∧ ∀ j, j < i → nameD ([o, n].getD j .none) = true) ⟨none, rfl, s2, upd_same, fun j hj => absurd hj (Nat.not_lt_zero _)⟩ (fun i σ H' _ z => by obtain ⟨v, _, _, a, _⟩ := z; exact SqL.of a) ?_ ?_
                  · rintro i z σ H' hz ⟨v, rfl, same, atl, before⟩
                    obtain ⟨e, he, dz, oke⟩ : ∃ e, [o, n][i]? = some e ∧ Dp K H' z e ∧ okS e := by
                      match i, hz with
                      | 0, hz => cases hz; exact ⟨o, rfl, dp_same same _ _ d2, okk o (by simp)⟩
                      | 1, hz => cases hz; exact ⟨n, rfl, dp_same same _ _ d4, okk n (by simp)⟩
                      | (k + 2), hz => cases hz
                    have eg : [o, n].getD i .none = e := by rw [List.getD_eq_getElem?_getD, he]; rfl
                    have bad : nameD e = false → ∀ H'', Same H H'' → Q (.bl false) H'' := fun ne H'' s' => by
                      have z : (nameD o && nameD n) = false := by
                        match i, he with
                        | 0, he => cases he; rw [ne, Bool.false_and]
                        | 1, he => cases he; rw [ne, Bool.and_false]
                      rw [z] at q
                      exact q H'' s'
                    have good : nameD e = true → ∀ j, j < i + 1 → nameD ([o, n].getD j .none) = true := fun ye j hj => by
                      rcases Nat.lt_succ_iff_lt_or_eq.mp hj with h | rfl
                      · exact before j h
                      · rw [eg]; exact ye
                    obtain ⟨tz, _, tyz⟩ := dp_ty dz
                    refine ⟨_, rfl, z, _, tz, _, _, rfl, .ty _, tyz.ty, tyz.str, _, rfl, ?_⟩
                    cases e with
                    | str y =>
                      cases dz
                      have ly := oke y rfl
                      have en := nameD_of (.str y)
                      simp only [] at en
                      refine ⟨_, rfl, y, rfl, Nat.le_of_lt (line10000 ly), 1, _, rfl, rfl, _, rfl, ite2 (fun h4 => ?_) (fun h4 => ?_)⟩
                      rotate_left
                      · refine ⟨_, rfl, bad ?_ _ same⟩
                        rw [en, decide_eq_false (fun z => h4 (decide_eq_true (by omega))), Bool.false_and, Bool.false_and]
                      · have g4 := of_decide_eq_true h4
                        refine ⟨_, _, rfl, rfl, _, rfl, ?_⟩
                        refine ite2 (fun h5 => ?_) (fun h5 => ?_)
                        · refine bad ?_ _ same
                          rw [en, decide_eq_false (fun z => ?_), Bool.false_and, Bool.false_and]
                          have z1 : (y.length : Int) ≤ 8 := by omega
                          rw [show decide ((y.length : Int) ≤ 8) = true from decide_eq_true z1] at h5
                          cases h5
                        · have g5 : (y.length : Int) ≤ 8 := by
                            refine Classical.byContradiction fun n => h5 ?_
                            rw [decide_eq_false n]
                            rfl
                          rw [decide_eq_true (show 1 ≤ y.length ∧ y.length ≤ 8 by omega), Bool.true_and] at en
                          refine ⟨_, rfl, (by show 2 ≤ sizeLine; decide), fun l2 nl2 => ⟨l2, _, rfl, .inl (SqL.of upd_same), rfl, rfl, _, rfl, ?_⟩⟩
                          have s4 := same.trans (same_upd (o := .lst [.str "shift", .str "accept"]) nl2)
                          rw [if_neg Bool.false_ne_true, acts_in]
                          refine ite2 (fun h6 => ?_) (fun h6 => ?_)
                          · refine bad ?_ _ s4
                            rw [en, ← Bool.not_or, h6]
                            rfl
                          · rw [← Bool.not_or, Bool.eq_false_iff.mpr h6, Bool.not_false, Bool.true_and] at en
                            refine ⟨_, rfl, y, rfl, fun D nD => ?_⟩
                            refine lc_gen walk_str (fun i => !low (y.cps.toList.getD i 0)) (fun i => .str (sgn1 (y.cps.toList.getD i 0))) (line10000 ly) nD (fun _ => rfl) (fun _ _ => True.intro) ?_ ?_
                            · rintro i x H5 H6 hi same5 ⟨rfl, c, hc, rfl⟩
                              have e : y.cps.toList.getD i 0 = c := by
                                rw [List.getD_eq_getElem?_getD, Array.getElem?_toList, hc] <;> rfl
                              rw [e]
                              refine ⟨rfl, fun R h => ?_, fun _ H3 s3 R h => ⟨_, rfl, h _ (Same.rfl' _)⟩⟩
                              have ha : (!decide ((⟨#[c]⟩ : Str).cps.toList < (Str.ofString "a").cps.toList)) = decide (97 ≤ c) := by
                                rw [show Str.ofString "a" = ⟨#[97]⟩ by decide +kernel, lt_one, ← decide_not]
                                congr 1
                                rw [eq_iff_iff]
                                omega
                              have hb : (!decide ((Str.ofString "z").cps.toList < (⟨#[c]⟩ : Str).cps.toList)) = decide (c ≤ 122) := by
                                rw [show Str.ofString "z" = ⟨#[122]⟩ by decide +kernel, lt_one, ← decide_not]
                                congr 1
                                rw [eq_iff_iff]
                                omega
                              refine ⟨_, rfl, _, _, rfl, rfl, _, rfl, ?_⟩
                              rw [ha]
                              refine ite2 (fun h3 => ?_) (fun h3 => ?_)
                              · refine ⟨_, _, rfl, rfl, _, rfl, ?_⟩
                                rw [hb]
                                have e2 : low c = decide (c ≤ 122) := by
                                  unfold low
                                  congr 1
                                  rw [eq_iff_iff]
                                  have := of_decide_eq_true h3
                                  omega
                                rw [e2] at h
                                exact h _ (Same.rfl' _)
                              · have e2 : low c = false := by
                                  unfold low
                                  have := mt decide_eq_true h3
                                  rw [decide_eq_false]
                                  omega
                                rw [e2] at h
                                exact ⟨_, rfl, h _ (Same.rfl' _)⟩
                            · intro H5 s5 at5
                              have e7 := filt_small y.cps.toList
                              rw [Array.length_toList] at e7
                              generalize hzs : (((List.range y.cps.size).filter fun i => !low (y.cps.toList.getD i 0)).map fun i => sgn1 (y.cps.toList.getD i 0)) = zs at e7
                              have at6 : H5 D = some (.lst (zs.map V.str)) := by rw [at5, ← hzs, List.map_map]; rfl
                              refine ⟨(by show 0 ≤ sizeLine; exact Nat.zero_le _), fun l3 nl3 => ⟨.list (zs.map PyData.str), .list [], .lst (SqL.of (same_upd nl3 _ _ at6)) (dp_strs zs), .lst (SqL.of upd_same) .nil, plain_strs zs, rfl, ?_, _, rfl, ?_⟩⟩
                              · simp only [PyData.depth, depth_strs]
                                decide
                              · have s7 := (s4.trans s5).trans (same_upd (o := .lst []) nl3)
                                rw [if_pos rfl, eqv_nil]
                                have e8 : nameD (.str y) = zs.isEmpty := by
                                  rw [en, Bool.eq_iff_iff, ← e7, List.isEmpty_iff]
                                cases h8 : zs.isEmpty with
                                | true =>
                                  rw [h8] at e8
                                  exact ⟨_, rfl, s7, same_upd nl3 _ _ (s5 _ _ (same_upd nl2 _ _ atl)), good e8⟩
                                | false =>
                                  rw [h8] at e8
                                  exact bad e8 _ s7
                    | _ => exact bad rfl _ same
                  · rintro σ H' ⟨v, rfl, same, atl, all⟩
                    have a0 := all 0 (show 0 < 2 by decide)
                    have a1 := all 1 (show 1 < 2 by decide)
                    rw [show nameD o = true from a0, show nameD n = true from a1] at q
                    exact q _ same
            | _ =>
              simp only [idxB, Bool.and_false, Bool.false_and] at q
              exact q _ s1
    | _ => exact q H (Same.rfl' H)
end
end LR
set_option Elab.async false
set_option linter.all false
set_option maxRecDepth 100000
set_option maxHeartbeats 4000000
namespace LR
open PySem L2 CG SN KD
open PySem.W (kitOne Frag excIn keepIn subIn typeIn findIn exmOne)
/-! ### what is due, and what is made -/
/-- what stands for an answer: the bars, or a word -/
def AnsAt (K : Frag) (H : Hp) (v : V) (o : Option (List PyData)) : Prop :=
  (∃ ds p, o = some ds ∧ goodB ds = true ∧ v = .ref p ∧ Dp K H (.ref p) (.tuple (sortD ds))) ∨ (goodO o = false ∧ v = .str "filter")
def fairO : Option (List PyData) → Prop | none => True | some ds => ∀ d ∈ ds, d.plain = true ∧ d.depth ≤ 50
def spDue (K : Frag) : Sp := fun vs H Q _ => ∃ (x : V) (o : Option (List PyData)), vs = [x] ∧ Arg K H x o ∧ fairO o ∧ ∀ v H', Same H H' → AnsAt K H' v o → Q v H'
structure Fx (mg : Str → Option Value) : Prop where
  sorted : mg "sorted" = none
abbrev ND : List Str := ["_law_value", "_law_one"]
theorem fair_all {ds : List PyData} (h : ∀ d ∈ ds, d.plain = true ∧ d.depth ≤ 50) : PyData.plainAll ds = true ∧ PyData.depthAll ds ≤ 50 := by
  induction ds with
  | nil => exact ⟨rfl, by simp [PyData.depthAll]⟩
  | cons d ds ih =>
    obtain ⟨a, b⟩ := ih fun e he => h e (List.mem_cons_of_mem _ he)
    obtain ⟨c, e⟩ := h d List.mem_cons_self
    refine ⟨by show (d.plain && PyData.plainAll ds) = true; rw [a, c]; rfl, ?_⟩
    simp only [PyData.depthAll]
    omega
theorem eqv_nilD (ds : List PyData) : PyData.eqv (.list ds) (.list []) = ds.isEmpty := by cases ds <;> rfl
section
variable {P : Program} {w : World} {K : Frag} {mg : Str → Option Value} {base : Heap} {CF cI cO : Addr}
theorem scDu : FnScope ND ["_law_value"] (defScope sDue) := ⟨rfl, rfl, rfl, by decide +kernel, rfl, by decide +kernel, by decide +kernel⟩
theorem ok_due {f fB : Addr} {fd dB : FuncData} (F : Fun K "_law_due" "_law_due" sDue f fd) (T : Sy mg) (B : Kn K mg "_law_is_bar" sIsBarL fB dB ["_law_value"]) : FnOk P w K mg base CX0 2 f fd ["_law_value"] (spDue K) := by
  have GB : FnOk P w K mg base CX0 1 fB dB ["_law_value"] (spIsB K) := ok_isbarL B.F T
  refine F.ok scDu (fun vs H Q E h => ?_) (fun cdv A outer s H vs Q E hr h => ?_)
  · obtain ⟨x, o, rfl, _⟩ := h
    rfl
  · obtain ⟨x, o, rfl, hx, fair, q⟩ := h
    refine ⟨_, pss_cons (ps_if (PW.pt (pw_or (pt_not (pt_val (pe_callB call_isi (by rfl) T.isi PyProof.Rows.boot_isinstance (pa_cons (pv 0) (pa_cons (pe_bltn (v := .ty "tuple") (by rfl) T.tuple PyProof.Rows.boot_tuple rfl) pa_nil)))))
        (pw_or (pt_cmpR op_gt (pe_callB call_len_seq (by rfl) T.len PySem.boot_len (pa_cons (pv 0) pa_nil)) pe_int (nomark _))
        (pw_or1 (pt_cmpR (op_neK (K := K) rfl hr.units) (pe_lc (own := [("_law_one", 1)]) (g := gName 1) rfl scDu.nd (pi_tup (pv 0))
          (blkOk_by (N := ND) (sc := defScope sDue) (by decide +kernel)) (fun _ _ _ _ _ => pg_name (i := 1) scDu.nd rfl (Or.inl rfl))
          (fun _ _ _ _ _ => pts_one (pt_not (pt_val (pe_call GB hr rfl B.g B.F.kp B.b .nil pass0 (pa_cons (pv 1) pa_nil))))) (fun _ _ _ _ _ => pv 1)) (pe_lst pa_nil) (nomark _))))))
        (pss_one (ps_ret pe_str)) pss_nil)
      (pss_one (ps_ret (pe_ifExp (pt_cmpR op_eq (pe_callB cr_lenN (by rfl) T.len PySem.boot_len (pa_cons (pe_callTy (cr_setN rfl hr.units) (by rfl) T.set PyProof.Rows.boot_set (pa_cons (pv 0) pa_nil)) pa_nil))
          (pe_callB call_len_seq (by rfl) T.len PySem.boot_len (pa_cons (pv 0) pa_nil)) (nomark _))
        (pe_callTy call_tuple_of (by rfl) T.tuple PyProof.Rows.boot_tuple (pa_cons (pe_callB (cr_sortD hr.units) (by rfl) T.sorted (by decide +kernel) (pa_cons (pv 0) pa_nil)) pa_nil)) pe_str))), ?_⟩
    have bad : goodO o = false → ∀ H', Same H H' → Q (.str "filter") H' := fun g H' s' => q _ _ s' (.inr ⟨g, rfl⟩)
    cases hx with
    | @no t ty kt => exact ⟨_, rfl, x, _, t, _, _, rfl, .ty _, ty, kt, _, rfl, bad rfl _ (Same.rfl' _)⟩
    | @yes ds hd ok len =>
      obtain ⟨t, _, ty⟩ := dp_ty hd
      cases hd with
      | @tup p xs _ hq ha2 =>
        have lx := dpAll_len ha2
        refine ⟨_, rfl, .ref p, _, t, _, _, rfl, .ty _, ty.ty, ty.tup, _, rfl, ?_⟩
        refine ⟨_, rfl, p, xs, rfl, .inr hq, _, _, rfl, rfl, _, rfl, ite2 (fun h1 => ?_) (fun h1 => ?_)⟩
        · have g1 := of_decide_eq_true h1
          refine bad ?_ H (Same.rfl' H)
          show (decide (ds.length ≤ 60) && _ && _) = false
          rw [decide_eq_false (by omega), Bool.false_and, Bool.false_and]
        · have g1 := mt decide_eq_true h1
          refine ⟨_, rfl, p, rfl, ⟨xs, hq⟩, fun D nD => ?_⟩
          refine lc_dp (K := K) (walk_tup (xs := xs)) ds (fun d => !barB d) (fun d => d) lx.symm (Nat.lt_of_le_of_lt (show xs.length ≤ 20000 by omega) (by decide)) nD (fun _ => rfl) (fun H' s' => sqT_same s' hq) ?_ ?_
          · rintro i d y H' H'' hdi same _ ⟨rfl, hxi⟩
            obtain ⟨d', he, dz⟩ := dpAll_at ha2 i y hxi
            rw [hdi] at he
            cases he
            have md := List.mem_of_getElem? hdi
            refine ⟨rfl, fun R h => ?_, fun _ H3 s3 R h => ⟨_, rfl, h y H3 (Same.rfl' _) (dp_same (hid_new nD (same.trans s3)) _ _ dz)⟩⟩
            exact ⟨_, rfl, y, d, rfl, dp_same same _ _ dz, ok d md, (fair d md).1, fun H3 s3 => ⟨_, rfl, h _ s3⟩⟩
          · intro H1 acc s1 at1 dd
            rw [map_id'] at dd
            obtain ⟨pl, de⟩ := fair_all (ds := ds.filter fun d => !barB d) fun d hd => fair d (List.mem_filter.mp hd).1
            refine ⟨by show 0 ≤ sizeLine; exact Nat.zero_le _, fun l3 nl3 => ⟨.list (ds.filter fun d => !barB d), .list [], .lst (SqL.of (same_upd nl3 _ _ at1)) (dpAll_same (hid_in.trans (same_upd nl3)) _ _ dd), .lst (SqL.of upd_same) .nil, pl, rfl, ?_, _, rfl, ?_⟩⟩
            · simp only [PyData.depth]
              omega
            · have s2 := s1.trans (same_upd (o := .lst []) nl3)
              rw [if_pos rfl, eqv_nilD]
              have eb : (ds.filter fun d => !barB d).isEmpty = ds.all barB := by
                rw [Bool.eq_iff_iff, List.isEmpty_iff, List.filter_eq_nil_iff, List.all_eq_true]
                constructor
                · intro h d hd
                  have := h d hd
                  simpa using this
                · intro h d hd
                  rw [h d hd]
                  decide
              rw [eb]
              refine ite2 (fun h2 => ?_) (fun h2 => ?_)
              · refine bad ?_ _ s2
                show (_ && ds.all barB && _) = false
                rw [show ds.all barB = false by simpa using h2, Bool.and_false, Bool.false_and]
              · have allb : ∀ d ∈ ds, barB d = true := List.all_eq_true.mp (by simpa using h2)
                obtain ⟨ks, k1, k2, k3⟩ := keys_of (dpAll_same s2 _ _ ha2) allb
                have kd := data_keys k2 allb
                have kl : ks.length = ds.length := by have z := congrArg List.length k2; rw [List.length_map, List.length_map] at z; exact z
                have hq1 : SqT K (upd H1 l3 (.lst [])) p (ks.map fun e => V.ref e.1) := by rw [k1]; exact sqT_same s2 hq
                refine ⟨_, rfl, p, ks, rfl, .inr hq1, k3, by omega, fun b R nb nd sub cov => ⟨b, R, rfl, upd_same, ?_⟩⟩
                have s3 := s2.trans (same_upd (o := SackO P w b R) nb)
                refine ⟨_, rfl, p, xs, rfl, .inr (sqT_same s3 hq), rfl, _, rfl, ?_⟩
                have dz : decide ((R.length : Int) < xs.length) = !decide (ds.map barKey).Nodup := by
                  rw [lx, ← kl, set_size nd sub cov, k2]
                have rle : R.length ≤ xs.length := by
                  have z := nodup_len nd (D := ks.map (·.2)) fun x hx => by
                    obtain ⟨e, he, rfl⟩ := List.mem_map.mp hx
                    exact List.mem_map.mpr ⟨e, sub e he, rfl⟩
                  rw [List.length_map, List.length_map] at z
                  omega
                have dy : decide (V.int (R.length : Int) = V.int (xs.length : Int)) = decide (ds.map barKey).Nodup := by
                  have z : decide (V.int (R.length : Int) = V.int (xs.length : Int)) = !decide ((R.length : Int) < xs.length) := by
                    rw [← decide_not]
                    refine decide_eq_decide.mpr ⟨fun h => ?_, fun h => ?_⟩
                    · injection h with h
                      omega
                    · congr 1
                      omega
                  rw [z, dz, Bool.not_not]
                show if decide (V.int (R.length : Int) = V.int (xs.length : Int)) = true then _ else _
                rw [dy]
                refine ite2 (fun h3 => ?_) (fun h3 => ?_)
                · have good : goodB ds = true := by
                    show (decide (ds.length ≤ 60) && ds.all barB && decide (ds.map barKey).Nodup) = true
                    rw [decide_eq_true (by omega), List.all_eq_true.mpr allb, h3]
                    rfl
                  obtain ⟨so1, so2⟩ := bars_sort allb
                  refine ⟨_, rfl, p, ks, rfl, .inr (by rw [k1]; exact sqT_same s3 hq), (fun e he => dp_same (same_upd nb) _ _ (k3 e he).1), (fun e he => ?_), by rw [kd]; exact so1, by rw [kd]; exact so2, by rw [kl]; exact Nat.le_trans len (by decide), fun l nl => ?_⟩
                  · have : e.2.data ∈ ds := by rw [← kd]; exact List.mem_map.mpr ⟨e, he, rfl⟩
                    exact (bar_depth (allb _ this)).1
                  · have s4 := s3.trans (same_upd (o := .lst ((ks.mergeSort keyLe).map fun e => V.ref e.1)) nl)
                    refine ⟨l, _, rfl, .inl ⟨SqL.of upd_same, fun m nm => ?_⟩⟩
                    have s5 := s4.trans (same_upd (o := .tup ((ks.mergeSort keyLe).map fun e => V.ref e.1)) nm)
                    refine q _ _ s5 (.inl ⟨ds, m, rfl, good, rfl, .tup (SqT.of upd_same) ?_⟩)
                    rw [← kd, ← sort_keys]
                    exact dpAll_of fun e he => by
                      have he2 : e ∈ ks := (List.mergeSort_perm ks _).mem_iff.mp he
                      exact ⟨dp_same (((same_upd nb).trans (same_upd nl)).trans (same_upd nm)) _ _ (k3 e he2).1, (k3 e he2).2⟩
                · refine bad ?_ _ s3
                  show (_ && _ && decide (ds.map barKey).Nodup) = false
                  rw [Bool.eq_false_iff.mpr h3, Bool.and_false]
/-! ### made -/
theorem pss_ex {X : Cx} {b : List Stmt} {t : XK → TS} {W : WX} (h : ∀ Ech : XK, (∀ cls d σ' H', Ech cls d H' → W cls d σ' H') → PSs X b (t Ech)) : PSs X b (fun D σ H => ∃ Ech : XK, (∀ cls d σ' H', Ech cls d H' → W cls d σ' H') ∧ t Ech D σ H) := by
  refine ⟨fun pins s σ H D I h' => ?_⟩
  obtain ⟨Ech, hW, h1⟩ := h'
  exact (h Ech hW).run pins s σ H D I h1
structure Mx (K : Frag) (mg : Str → Option Value) (cI cO : Addr) : Prop where
  gI : mg "InvalidFilter" = some (.ref cI)
  gO : mg "InvalidOperation" = some (.ref cO)
  ii : exmOne K (.ref cI) (.ref cI) = some true
  oo : exmOne K (.ref cO) (.ref cO) = some true
  io : exmOne K (.ref cI) (.ref cO) = some false
theorem scMa : FnScope ["_law_value"] ["_law_value"] (defScope sMade) := ⟨rfl, rfl, rfl, by decide +kernel, rfl, by decide +kernel, by decide +kernel⟩
def tMadeB (K : Frag) (CF cI : Addr) (W : WX) : TS := fun D σ H => ∃ Ech : XK, (∀ cls d σ' H', Ech cls d H' → W cls d σ' H') ∧ tRet (tProp CF (spBars K CF) [] E0 (tMake CF (spFInit K CF cI) [] Ech (tCons (tVar 0) tNil))) D σ H
theorem ok_made {f : Addr} {fd : FuncData} (F : Fun K "_law_made_of" "_law_made_of" sMade f fd) (C : Cm P w K mg base CF cI cO) (M : Mx K mg cI cO) : FnOk P w K mg base CX0 8 f fd ["_law_value"] (spDue K) := by
  obtain ⟨pp, gp, dp, PR, GP, bP⟩ := C.pr
  obtain ⟨fm, dm, MK, GM, bM⟩ := C.make
  refine F.ok scMa (fun vs H Q E h => ?_) (fun cdv A outer s H vs Q E hr h => ?_)
  · obtain ⟨x, o, rfl, _⟩ := h
    rfl
  · obtain ⟨x, o, rfl, hx, fair, q⟩ := h
    have hr2 : Room 2 _ := hr.mono (by decide)
    refine ⟨_, pss_one (ps_try_only (c := .ref cI) (tb := tMadeB K CF cI) rfl rfl ⟨rfl, by decide, .inl M.gI⟩ L2.takes0 (fun W pn xe tk _ => ?_) (fun a oe cls d pn _ _ => pss_one (ps_ret pe_str))), ?_⟩
    · exact pss_ex fun Ech hW => pss_one (ps_ret (pe_prop (pe_make MK GM hr rfl C.fc.g bM .nil (passes_call tk hW) (pa_cons (pv 0) pa_nil)) C.fc.cl PR GP hr2 bP .nil pass0 rfl))
    · refine ⟨fun cls d H' => cls = .ref cI ∧ Q (.str "filter") H', fun cls d σ' H' z => ?_, ?_⟩
      · obtain ⟨rfl, z⟩ := z
        exact ⟨true, M.ii, fun _ a _ => z, fun z => Bool.noConfusion z⟩
      · refine ⟨_, rfl, ?_⟩
        refine mk_arg (Q := fun x H1 => ∃ a dx fs, x = .ref a ∧ H1 a = some (.ins CF dx fs) ∧ spBars K CF [.ref a] H1 Q E0) hx ?_ ?_
        · intro ds e g H' b s' nb fb
          subst e
          obtain ⟨p, ⟨dx, fa⟩, dd⟩ := fb
          exact ⟨b, dx, _, rfl, fa, b, sortD ds, rfl, ⟨p, ⟨dx, fa⟩, dd⟩, fun p2 f2 d2 => q _ _ s' (.inl ⟨ds, p2, rfl, g, rfl, d2⟩)⟩
        · intro g H' s'
          exact ⟨rfl, q _ _ s' (.inr ⟨g, rfl⟩)⟩
end
end LR
set_option Elab.async false
set_option linter.all false
set_option maxRecDepth 100000
set_option maxHeartbeats 4000000
namespace LR
open PySem L2 CG SN KD
open PySem.W (kitOne Frag excIn keepIn subIn typeIn findIn exmOne)
/-! ### the dice aside -/
def SB (d : Addr) (H H' : Hp) : Prop := ∀ b o, b ≠ d → H b = some o → H' b = some o
theorem SB.refl {d : Addr} {H : Hp} : SB d H H := fun _ _ _ e => e
theorem SB.trans {d : Addr} {H H1 H2 : Hp} (a : SB d H H1) (b : SB d H1 H2) : SB d H H2 := fun c o n e => b c o n (a c o n e)
theorem SB.of {d : Addr} {H H' : Hp} (s : Same H H') : SB d H H' := fun b o _ e => s b o e
theorem SB.but {d : Addr} {H H' : Hp} (s : But d H H') : SB d H H' := fun b o n e => by rw [s b n]; exact e
theorem SB.hid {d : Addr} {H H' : Hp} (s : SB d H H') : Same (Hid d H) (Hid d H') := fun b o e => hid_of (hid_some e).1 (s _ _ (hid_some e).1 (hid_some e).2)
theorem SB.upd_new {d p : Addr} {H H' : Hp} {o : HO} (n : H p = none) (s : SB d H H') : SB d H (upd H' p o) := fun b u nb e => by
  rw [upd_ne (ne_of_none e n)]
  exact s b u nb e
theorem DiceAt.keep {d : Addr} {H H' : Hp} (h : DiceAt H d) (s : Same H H') : DiceAt H' d := by
  obtain ⟨a, b, c, e⟩ := h
  exact ⟨a, b, c, s _ _ e⟩
theorem DiceAt.ne {d p : Addr} {H : Hp} (h : DiceAt H d) (n : H p = none) : p ≠ d := fun e => by
  obtain ⟨_, _, _, z⟩ := h
  rw [← e, n] at z
  cases z
theorem DiceAt.upd {d p : Addr} {H : Hp} {o : HO} (h : DiceAt H d) (n : p ≠ d) : DiceAt (upd H p o) d := by
  obtain ⟨a, b, c, e⟩ := h
  exact ⟨a, b, c, by rw [upd_ne (Ne.symm n)]; exact e⟩
/-! ### so many of the items -/
def spSome : Sp := fun vs H Q _ => ∃ (d l : Addr) (xs : List V) (m : Nat), vs = [.ref d, .ref l, .int m] ∧ DiceAt H d ∧ H l = some (.lst xs) ∧ l ≠ d ∧ xs.length < 1000 ∧ m < 1000 ∧
  ∀ p H' zs rest, H p = none → DiceAt H' d → SB d H H' → H' p = some (.lst zs) → (zs ++ rest).Perm xs → zs.length = min m xs.length → Q (.ref p) H'
abbrev NS : List Str := ["_law_dice_here", "_law_items", "_law_lots", "_law_left", "_law_found", "_law_turn"]
theorem scSo : FnScope NS ["_law_dice_here", "_law_items", "_law_lots"] (defScope sSome) := ⟨rfl, rfl, rfl, by decide +kernel, rfl, by decide +kernel, by decide +kernel⟩
theorem perm_pick {α : Type} : ∀ {xs : List α} {k : Nat} {y : α}, xs[k]? = some y → (y :: xs.eraseIdx k).Perm xs
  | [], _, _, h => by cases h
  | x :: xs, 0, y, h => by cases h; exact List.Perm.refl _
  | x :: xs, k + 1, y, h => by
    have ih := perm_pick (xs := xs) (k := k) (y := y) h
    exact (List.Perm.swap x y _).trans (ih.cons x)
section
variable {P : Program} {w : World} {K : Frag} {mg : Str → Option Value} {base : Heap}
theorem ok_some {f fR : Addr} {fd dR : FuncData} (F : Fun K "_law_some" "_law_some" sSome f fd) (T : Sy mg) (T0 : Blt mg) (R : Kn K mg "_law_roll" sRoll fR dR ["_law_dice_here", "_law_total"]) : FnOk P w K mg base CX0 2 f fd ["_law_dice_here", "_law_items", "_law_lots"] spSome := by
  have GR : FnOk P w K mg base CX0 1 fR dR ["_law_dice_here", "_law_total"] spRoll := ok_roll R.F T0
  refine F.ok scSo (fun vs H Q E h => ?_) (fun cdv A outer s H vs Q E hr h => ?_)
  · obtain ⟨d, l, xs, m, rfl, _⟩ := h
    rfl
  · obtain ⟨d, l, xs, m, rfl, hd, hl, ne, lx, lm, q⟩ := h
    refine ⟨_, pss_cons (ps_par (i := 3) (j := 4) (by rfl) scSo.nd rfl rfl (by decide) rfl rfl (pa_cons (pe_callTy call_list_of (by rfl) T.list PyProof.Rows.boot_list (pa_cons (pv 1) pa_nil)) (pa_cons (pe_lst pa_nil) pa_nil)) (by rfl))
      (pss_cons (ps_for PassesOwn.never rfl (pi_range1 rfl T.range (pa_cons (pe_callB (call_min2 rfl) (by rfl) T.min PyProof.Rows.boot_min (pa_cons (pv 2) (pa_cons (pe_callB call_len (by rfl) T.len PySem.boot_len (pa_cons (pv 3) pa_nil)) pa_nil))) pa_nil)) (pg_name (i := 5) scSo.nd rfl (Or.inl rfl))
        (pss_one (ps_expr (pe_bm PySem.F.plainAttrs_list PySem.F.slot_list_append PySem.F.type_list_append mt_append (pv 4) (pa_cons (pe_bm PySem.F.plainAttrs_list PySem.F.slot_list_pop PySem.F.type_list_pop mt_popAt (pv 3)
          (pa_cons (pe_call GR hr rfl R.g R.F.kp R.b .nil pass0 (pa_cons (pv 0) (pa_cons (pe_callB call_len (by rfl) T.len PySem.boot_len (pa_cons (pv 3) pa_nil)) pa_nil))) pa_nil)) pa_nil)))))
      (pss_one (ps_ret (pv 4)))), ?_⟩
    refine ⟨_, rfl, l, xs, rfl, .inl (SqL.of hl), fun a na => ?_⟩
    have s1 : Same H (upd H a (.lst xs)) := same_upd na
    refine ⟨by show 0 ≤ sizeLine; exact Nat.zero_le _, fun b nb => ?_⟩
    have s2 := s1.trans (same_upd (o := .lst []) nb)
    refine ⟨_, _, rfl, ?_⟩
    have adn : a ≠ d := hd.ne na
    have na' : H b = none := by
      cases z : H b with
      | none => rfl
      | some o => cases (s1 _ _ z).symm.trans nb
    have bdn : b ≠ d := hd.ne na'
    have ban : b ≠ a := fun e => by
      rw [e, upd_same] at nb
      cases nb
    have ea : (upd (upd H a (.lst xs)) b (.lst [])) a = some (.lst xs) := by rw [upd_ne (Ne.symm ban), upd_same]
    refine ⟨_, rfl, _, rfl, .ref a, _, rfl, .inl ⟨_, SqL.of ea, rfl⟩, _, _, rfl, _, rfl, ?_⟩
    have en : (if (xs.length : Int) < (m : Int) then (xs.length : Int) else (m : Int)) = ((min m xs.length : Nat) : Int) := by
      split <;> omega
    rw [en]
    have sm : min m xs.length < 1000 := by omega
    refine ⟨by omega, by omega, ?_⟩
    rw [Int.toNat_natCast]
    refine for_range (lo := 0) (n := min m xs.length) (fun i σ H' => ∃ v L F, σ = [some (.ref d), some (.ref l), some (.int m), some (.ref a), some (.ref b), v] ∧ DiceAt H' d ∧ SB d H H' ∧ H' a = some (.lst L) ∧ H' b = some (.lst F) ∧ (F ++ L).Perm xs ∧ F.length = i)
      ⟨none, xs, [], rfl, (hd.keep s1).upd bdn, SB.of s2, ea, upd_same, List.Perm.refl _, rfl⟩ ?_ ?_
    · rintro i σ H' hi ⟨v, L, F, rfl, hd', sb, ha, hb, pm, lf⟩
      have lpm := pm.length_eq
      rw [List.length_append] at lpm
      refine ⟨_, rfl, .inl ⟨rfl, _, SqL.of hb⟩, ?_⟩
      refine ⟨_, rfl, .inl ⟨rfl, _, SqL.of ha⟩, ?_⟩
      refine ⟨_, rfl, _, rfl, .ref a, _, rfl, .inl ⟨_, SqL.of ha, rfl⟩, d, _, rfl, hd', (by omega), (by omega), fun r H2 r0 r1 d2 same => ?_⟩
      obtain ⟨j, rfl⟩ := Int.eq_ofNat_of_zero_le r0
      have hj : j < L.length := by omega
      have ha2 : H2 a = some (.lst L) := (same a adn).trans ha
      have hb2 : H2 b = some (.lst F) := (same b bdn).trans hb
      refine ⟨a, L, _, j, L[j], rfl, rfl, ha2, (by omega), (by omega), ?_, by simp [hj], ?_⟩
      · unfold seqIndex?
        rw [if_neg (show ¬ ((j : Int) < 0) by omega)]
        simp only [Bool.and_eq_true, decide_eq_true_eq, Int.ofNat_eq_natCast]
        rw [if_pos ⟨by omega, by omega⟩, Int.toNat_natCast]
      · have hb3 : (upd H2 a (.lst (L.eraseIdx j))) b = some (.lst F) := by rw [upd_ne ban]; exact hb2
        refine ⟨b, F, L[j], rfl, rfl, hb3, Nat.lt_of_lt_of_le (show F.length < 1000 by omega) (by decide), ?_⟩
        refine ⟨_, L.eraseIdx j, F ++ [L[j]], rfl, (d2.upd adn).upd bdn, SB.upd_new na' (SB.upd_new na (sb.trans (SB.but same))), by rw [upd_ne (Ne.symm ban), upd_same], upd_same, ?_, by rw [List.length_append, lf]; rfl⟩
        refine List.Perm.trans ?_ pm
        rw [List.append_assoc]
        exact (perm_pick (by simp [hj])).append_left F
    · rintro σ H' ⟨v, L, F, rfl, hd', sb, ha, hb, pm, lf⟩
      exact ⟨_, rfl, q b H' F L na' hd' sb hb pm lf⟩
end
end LR
set_option Elab.async false
set_option linter.all false
set_option maxRecDepth 100000
set_option maxHeartbeats 4000000
namespace LR
open PySem L2 CG SN KD
open PySem.W (kitOne Frag excIn keepIn subIn typeIn findIn exmOne)
/-! ### slices -/
theorem cut_all {xs : List V} {lo hi : Option Int} (h : HT.sIx xs.length 0 lo = 0 ∧ HT.sIx xs.length xs.length hi = xs.length) : cutV xs lo hi = xs := by
  unfold cutV
  rw [h.1, h.2, List.drop_zero, Nat.sub_zero, List.take_length]
theorem slA_of {K : Frag} {x : V} {a : Addr} {xs : List V} {lo hi : Option Int} {H : Hp} {Q : VK} (ex : x = .ref a) (ha : SqT K H a xs) (q : ∀ p H', Same H H' → SqT K H' p (cutV xs lo hi) → Q (.ref p) H') : rSlA K x lo hi H Q :=
  ⟨a, xs, ex, ha, fun w => q a H (Same.rfl' H) (by rw [cut_all w]; exact ha), fun _ p np => q p _ (same_upd np) (SqT.of upd_same)⟩
theorem cut_take (xs : List V) (j : Nat) : cutV xs none (some (j : Int)) = xs.take j := by
  unfold cutV
  rw [HT.sIx_none, HT.sIx_nat, List.drop_zero, Nat.sub_zero]
  rcases Nat.le_total j xs.length with h | h
  · rw [Nat.min_eq_left h]
  · rw [Nat.min_eq_right h, List.take_length, List.take_of_length_le h]
theorem cut_drop (xs : List V) (j : Nat) : cutV xs (some (j : Int)) none = xs.drop j := by
  unfold cutV
  rw [HT.sIx_none, HT.sIx_nat]
  rcases Nat.le_total j xs.length with h | h
  · rw [Nat.min_eq_left h, List.take_of_length_le (by rw [List.length_drop]; omega)]
  · rw [Nat.min_eq_right h, List.drop_eq_nil_of_le h, List.drop_eq_nil_of_le (Nat.le_refl _), List.take_nil]
theorem dpAll_take {K : Frag} {H : Hp} : ∀ {xs : List V} {ds : List PyData} (j : Nat), DpAll K H xs ds → DpAll K H (xs.take j) (ds.take j)
  | _, _, 0, _ => .nil
  | _, _, j + 1, .nil => .nil
  | _, _, j + 1, .cons a t => .cons a (dpAll_take j t)
theorem dpAll_drop {K : Frag} {H : Hp} : ∀ {xs : List V} {ds : List PyData} (j : Nat), DpAll K H xs ds → DpAll K H (xs.drop j) (ds.drop j)
  | _, _, 0, h => h
  | _, _, j + 1, .nil => .nil
  | _, _, j + 1, .cons a t => dpAll_drop j t
/-! ### fair values -/
structure Fine (d : PyData) : Prop where
  ok : okB d
  pl : d.plain = true
  dp : d.depth ≤ 50
structure Small (d : PyData) : Prop where
  ok : okS d
  pl : d.plain = true
  dp : d.depth ≤ 10
theorem small_all {ds : List PyData} (h : ∀ d ∈ ds, Small d) : PyData.plainAll ds = true ∧ PyData.depthAll ds ≤ 10 := by
  induction ds with
  | nil => exact ⟨rfl, by simp [PyData.depthAll]⟩
  | cons d ds ih =>
    obtain ⟨a, b⟩ := ih fun e he => h e (List.mem_cons_of_mem _ he)
    obtain ⟨_, c, e⟩ := h d List.mem_cons_self
    refine ⟨by show (d.plain && PyData.plainAll ds) = true; rw [a, c]; rfl, ?_⟩
    simp only [PyData.depthAll]
    omega
theorem fine_tup {ds : List PyData} (h : ∀ d ∈ ds, Small d) : Fine (.tuple ds) := by
  obtain ⟨a, b⟩ := small_all h
  exact ⟨fun es e => by cases e; exact fun x hx => (h x hx).ok, a, by simp only [PyData.depth]; omega⟩
theorem fine_lst {ds : List PyData} (h : ∀ d ∈ ds, Small d) : Fine (.list ds) := by
  obtain ⟨a, b⟩ := small_all h
  exact ⟨fun es e => by (cases e), a, by simp only [PyData.depth]; omega⟩
theorem small_str {z : Str} (h : z.length ≤ 10000) : Small (.str z) := ⟨fun y e => by cases e; exact h, rfl, by simp [PyData.depth]⟩
theorem small_int (i : Int) : Small (.int i) := ⟨fun y e => by (cases e), rfl, by simp [PyData.depth]⟩
theorem small_bar {ds : List PyData} (b : barB (.tuple ds) = true) : ∀ d ∈ ds, Small d := by
  have ok := bar_ok b
  obtain ⟨h, o, i, n, e⟩ := bar_shape b
  cases e
  have okk := ok _ rfl
  intro d hd
  have z := okk d hd
  simp only [List.mem_cons, List.not_mem_nil, or_false] at hd
  rcases hd with rfl | rfl | rfl | rfl
  · exact small_str (z _ rfl)
  · exact small_str (z _ rfl)
  · exact small_int _
  · exact small_str (z _ rfl)
theorem fine_bar {d : PyData} (b : barB d = true) : Fine d := by
  obtain ⟨h, o, i, n, rfl⟩ := bar_shape b
  exact fine_tup (small_bar b)
/-! ### a drawn bar -/
def spBar (K : Frag) : Sp := fun vs H Q _ => ∃ (d : Addr), vs = [.ref d] ∧ DiceAt H d ∧ ∀ p H' e, DiceAt H' d → SB d H H' → barB e = true → Dp K (Hid d H') (.ref p) e → Q (.ref p) H'
abbrev NBr : List Str := ["_law_dice_here", "_law_titles", "_law_how"]
theorem scBr : FnScope NBr ["_law_dice_here"] (defScope sBar) := ⟨rfl, rfl, rfl, by decide +kernel, rfl, by decide +kernel, by decide +kernel⟩
abbrev titles : List Str := ["plus", "times", "neg", "a", "b", "abcdefgh", "child", "left"]
theorem titles_ok : ∀ z ∈ titles, isName z.cps.toList = true := by decide +kernel
theorem SqT.same' {K : Frag} {H H' : Hp} {a : Addr} {xs : List V} (s : Same H H') (h : SqT K H a xs) : SqT K H' a xs := sqT_same s h
theorem dpAll_strs4 {K : Frag} {H : Hp} (h t u : Str) (r : Int) : DpAll K H [.str h, .str t, .int r, .str u] [.str h, .str t, .int r, .str u] := .cons (.str h) (.cons (.str t) (.cons (.int r) (.cons (.str u) .nil)))
section
variable {P : Program} {w : World} {K : Frag} {mg : Str → Option Value} {base : Heap}
theorem ok_bar {f fR fP : Addr} {fd dR dP : FuncData} (F : Fun K "_law_bar" "_law_bar" sBar f fd) (T0 : Blt mg) (R : Kn K mg "_law_roll" sRoll fR dR ["_law_dice_here", "_law_total"]) (Pk : Kn K mg "_law_pick" sPick fP dP ["_law_dice_here", "_law_items"]) :
    FnOk P w K mg base CX0 3 f fd ["_law_dice_here"] (spBar K) := by
  have GR : FnOk P w K mg base CX0 1 fR dR ["_law_dice_here", "_law_total"] spRoll := ok_roll R.F T0
  have GP : FnOk P w K mg base CX0 2 fP dP ["_law_dice_here", "_law_items"] spPick := ok_pick Pk.F T0 R.F R.g R.b
  refine F.ok scBr (fun vs H Q E h => ?_) (fun cdv A outer s H vs Q E hr h => ?_)
  · obtain ⟨d, rfl, _⟩ := h
    rfl
  · obtain ⟨d, rfl, hd, q⟩ := h
    have hr1 : Room 1 _ := hr.mono (by decide)
    refine ⟨_, pss_cons (ps_set (i := 1) scBr.nd rfl (Or.inl rfl) (pe_lst (pa_cons pe_str (pa_cons pe_str (pa_cons pe_str (pa_cons pe_str (pa_cons pe_str (pa_cons pe_str (pa_cons pe_str (pa_cons pe_str pa_nil))))))))))
      (pss_cons (ps_set (i := 2) scBr.nd rfl (Or.inl rfl) (pe_call GP hr rfl Pk.g Pk.F.kp Pk.b .nil pass0 (pa_cons (pv 0) (pa_cons (pe_lst (pa_cons pe_str (pa_cons pe_str (pa_cons pe_str pa_nil)))) pa_nil))))
      (pss_one (ps_ret (pe_tup (pa_cons (pv 2) (pa_cons (pe_call GP hr rfl Pk.g Pk.F.kp Pk.b .nil pass0 (pa_cons (pv 0) (pa_cons (pv 1) pa_nil))) (pa_cons (pe_call GR hr1 rfl R.g R.F.kp R.b .nil pass0 (pa_cons (pv 0) (pa_cons pe_int pa_nil)))
        (pa_cons (pe_call GP hr rfl Pk.g Pk.F.kp Pk.b .nil pass0 (pa_cons (pv 0) (pa_cons (pv 1) pa_nil))) pa_nil)))))))), ?_⟩
    refine ⟨by show 8 ≤ sizeLine; decide, fun a na => ?_⟩
    have s1 : Same H (upd H a (.lst (titles.map V.str))) := same_upd na
    have and_ : a ≠ d := hd.ne na
    refine ⟨_, rfl, by show 3 ≤ sizeLine; decide, fun b nb => ?_⟩
    have d1 := hd.keep s1
    have bnd := d1.ne nb
    have s2 := s1.trans (same_upd (o := .lst [.str "child", .str "left", .str "right"]) nb)
    have d2 := hd.keep s2
    refine ⟨d, b, _, rfl, d2, upd_same, bnd, by decide, by decide, fun v H3 hv d3 b3 => ?_⟩
    obtain ⟨h, rfl, hh⟩ : ∃ h : Str, v = .str h ∧ howB (.str h) = true := by
      simp only [List.mem_cons, List.not_mem_nil, or_false] at hv
      rcases hv with rfl | rfl | rfl <;> exact ⟨_, rfl, by decide +kernel⟩
    have s3 : SB d H H3 := (SB.of s2).trans (SB.but b3)
    have ba : b ≠ a := fun e => by rw [e, upd_same] at nb; cases nb
    have at3 : H3 a = some (.lst (titles.map V.str)) := (b3 a and_).trans (by rw [upd_ne (Ne.symm ba), upd_same] <;> rfl)
    have pick : ∀ v : V, v ∈ titles.map V.str → ∃ t : Str, v = .str t ∧ nameD (.str t) = true := fun v hv => by
      obtain ⟨t, ht, rfl⟩ := List.mem_map.mp hv
      exact ⟨t, rfl, titles_ok t ht⟩
    refine ⟨_, rfl, _, rfl, _, rfl, d, a, _, rfl, d3, at3, and_, by decide, by decide, fun v H4 hv d4 b4 => ?_⟩
    obtain ⟨t, rfl, ht⟩ := pick v hv
    refine ⟨_, rfl, d, 5, rfl, d4, by decide, by decide, fun r H5 r0 r1 d5 b5 => ?_⟩
    have at5 : H5 a = some (.lst (titles.map V.str)) := (b5 a and_).trans ((b4 a and_).trans at3)
    refine ⟨_, rfl, _, rfl, d, a, _, rfl, d5, at5, and_, by decide, by decide, fun v H6 hv d6 b6 => ?_⟩
    obtain ⟨u, rfl, hu⟩ := pick v hv
    have s6 : SB d H H6 := ((s3.trans (SB.but b4)).trans (SB.but b5)).trans (SB.but b6)
    refine ⟨by show 4 ≤ sizeLine; decide, fun p np => ?_⟩
    have pd := d6.ne np
    refine q p _ (.tuple [.str h, .str t, .int r, .str u]) (d6.upd pd) (s6.trans (SB.of (same_upd np))) ?_ (.tup (SqT.of (hid_of pd upd_same)) (dpAll_strs4 h t u r))
    show (howB _ && nameD _ && idxB _ && nameD _) = true
    rw [hh, ht, hu, Bool.true_and, Bool.and_true, Bool.true_and]
    show (decide (0 ≤ r) && decide (r < 5)) = true
    rw [decide_eq_true r0, decide_eq_true r1]
    rfl
end
end LR
set_option Elab.async false
set_option linter.all false
set_option maxRecDepth 100000
set_option maxHeartbeats 4000000
namespace LR
open PySem L2 CG SN KD
open PySem.W (kitOne Frag excIn keepIn subIn typeIn findIn exmOne)
/-! ### a value near to a bar -/
def spBent (K : Frag) : Sp := fun vs H Q _ => ∃ (d p : Addr) (e : PyData), vs = [.ref d, .ref p] ∧ DiceAt H d ∧ barB e = true ∧ Dp K (Hid d H) (.ref p) e ∧ ∀ v H' u, DiceAt H' d → SB d H H' → Fine u → Dp K (Hid d H') v u → Q v H'
abbrev NBe : List Str := ["_law_dice_here", "_law_bar_here", "_law_at", "_law_some_here", "_law_near"]
theorem scBe : FnScope NBe ["_law_dice_here", "_law_bar_here"] (defScope sBent) := ⟨rfl, rfl, rfl, by decide +kernel, rfl, by decide +kernel, by decide +kernel⟩
theorem sqT_hid {K : Frag} {d a : Addr} {xs : List V} {H H' : Hp} (s : SB d H H') (h : SqT K (Hid d H) a xs) : SqT K H' a xs := sqT_same (s.hid.trans hid_in) h
theorem sqT_to {K : Frag} {d a : Addr} {xs : List V} {H : Hp} (hd : DiceAt H d) (h : SqT K H a xs) : SqT K (Hid d H) a xs := by
  obtain ⟨x, y, z, e⟩ := hd
  rcases h with (h | ⟨o, h⟩) | h
  · exact .inl (.inl (hid_of (fun q => by rw [q, e] at h; cases h) h))
  · exact .inl (.inr ⟨o, hid_of (fun q => by rw [q, e] at h; cases h) h⟩)
  · exact .inr h
theorem sqT_sb {K : Frag} {d a : Addr} {xs : List V} {H H' : Hp} (hd : DiceAt H d) (s : SB d H H') (h : SqT K H a xs) : SqT K H' a xs := sqT_hid s (sqT_to hd h)
section
variable {P : Program} {w : World} {K : Frag} {mg : Str → Option Value} {base : Heap}
theorem ok_bent {f fR fP : Addr} {fd dR dP : FuncData} (F : Fun K "_law_bent" "_law_bent" sBent f fd) (T : Sy mg) (T0 : Blt mg) (R : Kn K mg "_law_roll" sRoll fR dR ["_law_dice_here", "_law_total"]) (Pk : Kn K mg "_law_pick" sPick fP dP ["_law_dice_here", "_law_items"]) :
    FnOk P w K mg base CX0 3 f fd ["_law_dice_here", "_law_bar_here"] (spBent K) := by
  have GR : FnOk P w K mg base CX0 1 fR dR ["_law_dice_here", "_law_total"] spRoll := ok_roll R.F T0
  have GP : FnOk P w K mg base CX0 2 fP dP ["_law_dice_here", "_law_items"] spPick := ok_pick Pk.F T0 R.F R.g R.b
  refine F.ok scBe (fun vs H Q E h => ?_) (fun cdv A outer s H vs Q E hr h => ?_)
  · obtain ⟨d, p, e, rfl, _⟩ := h
    rfl
  · obtain ⟨d, p, e, rfl, hd, be, hp, q⟩ := h
    have hr1 : Room 1 _ := hr.mono (by decide)
    refine ⟨_, pss_cons (ps_set (i := 2) scBe.nd rfl (Or.inl rfl) (pe_call GR hr1 rfl R.g R.F.kp R.b .nil pass0 (pa_cons (pv 0) (pa_cons pe_int pa_nil))))
      (pss_cons (ps_set (i := 3) scBe.nd rfl (Or.inl rfl) (pe_lst (pa_cons pe_non (pa_cons pe_int (pa_cons pe_int (pa_cons (pe_un un_neg pe_int) (pa_cons pe_bl (pa_cons pe_str (pa_cons pe_str (pa_cons pe_str (pa_cons pe_str (pa_cons pe_str (pa_cons pe_str
          (pa_cons (pe_tup (pa_cons pe_str pa_nil)) (pa_cons pe_str (pa_cons pe_str (pa_cons pe_int pa_nil)))))))))))))))))
      (pss_cons (ps_set (i := 4) scBe.nd rfl (Or.inl rfl) (pe_op (op_catK (K := K) rfl) (pe_op (op_catK (K := K) rfl) (pe_slice sl_tupA (pv 1) po_none (po_some (pv 2)))
          (pe_tup (pa_cons (pe_call GP hr rfl Pk.g Pk.F.kp Pk.b .nil pass0 (pa_cons (pv 0) (pa_cons (pv 3) pa_nil))) pa_nil))) (pe_slice sl_tupA (pv 1) (po_some (pe_op op_add (pv 2) pe_int)) po_none)))
      (pss_one (ps_ret (pe_call GP hr rfl Pk.g Pk.F.kp Pk.b .nil pass0 (pa_cons (pv 0) (pa_cons (pe_lst (pa_cons (pv 4) (pa_cons (pv 4) (pa_cons (pv 4) (pa_cons (pe_callTy call_list_of (by rfl) T.list PyProof.Rows.boot_list (pa_cons (pv 1) pa_nil))
          (pa_cons (pe_slice sl_tupA (pv 1) po_none (po_some pe_int)) (pa_cons (pe_op (op_catK (K := K) rfl) (pv 1) (pe_tup (pa_cons pe_int pa_nil))) (pa_cons pe_non (pa_cons pe_str (pa_cons (pv 1) pa_nil)))))))))) pa_nil))))))), ?_⟩
    refine ⟨_, rfl, d, 4, rfl, hd, by decide, by decide, fun j H1 r0 r1 d1 b1 => ?_⟩
    obtain ⟨j, rfl⟩ := Int.eq_ofNat_of_zero_le r0
    have s1 : SB d H H1 := SB.but b1
    refine ⟨_, rfl, by show 1 ≤ sizeLine; decide, fun a na => ?_⟩
    have nad := d1.ne na
    have s2 := s1.trans (SB.of (same_upd (o := .tup [.str "a"]) na))
    refine ⟨by show 15 ≤ sizeLine; decide, fun b nb => ?_⟩
    have d2 := d1.upd (o := .tup [.str "a"]) nad
    have nbd := d2.ne nb
    have s3 := s2.trans (SB.of (same_upd (o := .lst [.non, .int 0, .int 5, .int (-1), .bl true, .str "", .str "Child", .str "shift", .str "accept", .str "a b", .str "abcdefghi", .ref a, .str "right", .str "zz", .int 2]) nb))
    have d3 := d2.upd (o := .lst [.non, .int 0, .int 5, .int (-1), .bl true, .str "", .str "Child", .str "shift", .str "accept", .str "a b", .str "abcdefghi", .ref a, .str "right", .str "zz", .int 2]) nbd
    have ba : b ≠ a := fun e => by rw [e, upd_same] at nb; cases nb
    -- bar[:at]
    obtain ⟨ds0, rfl⟩ : ∃ ds, e = .tuple ds := by
      obtain ⟨_, _, _, _, e⟩ := bar_shape be
      exact ⟨_, e⟩
    cases hp with
    | @tup _ xs ds hq hds =>
    have sb4 := small_bar be
    refine ⟨_, rfl, _, rfl, _, rfl, ?_⟩
    refine slA_of rfl (sqT_hid s3 hq) fun p1 H4 s4 hp1 => ?_
    rw [cut_take] at hp1
    have d4 := d3.keep s4
    have at4b := s4 _ _ (upd_same (H := upd H1 a (.tup [.str "a"])) (a := b))
    refine ⟨_, rfl, _, rfl, d, b, _, rfl, d4, at4b, nbd, (by show 0 < 15; decide), (by show 15 < 1000; decide), fun v H5 hv d5 b5 => ?_⟩
    have s5 : SB d H H5 := (s3.trans (SB.of s4)).trans (SB.but b5)
    have ata : Hid d H5 a = some (.tup [.str "a"]) := hid_of nad ((b5 a nad).trans (s4 _ _ (by rw [upd_ne (Ne.symm ba), upd_same])))
    obtain ⟨u, dv, su⟩ : ∃ u, Dp K (Hid d H5) v u ∧ Small u := by
      have sm : ∀ z : Str, z.length ≤ 10000 → ∃ u, Dp K (Hid d H5) (.str z) u ∧ Small u := fun z hz => ⟨_, .str z, small_str hz⟩
      simp only [List.mem_cons, List.not_mem_nil, or_false] at hv
      rcases hv with rfl | rfl | rfl | rfl | rfl | rfl | rfl | rfl | rfl | rfl | rfl | rfl | rfl | rfl | rfl
      · exact ⟨_, .non, fun y e => by (cases e), rfl, by decide +kernel⟩
      · exact ⟨_, .int 0, small_int _⟩
      · exact ⟨_, .int 5, small_int _⟩
      · exact ⟨_, .int (-1), small_int _⟩
      · exact ⟨_, .bl true, fun y e => by (cases e), rfl, by decide +kernel⟩
      · exact sm _ (by decide +kernel)
      · exact sm _ (by decide +kernel)
      · exact sm _ (by decide +kernel)
      · exact sm _ (by decide +kernel)
      · exact sm _ (by decide +kernel)
      · exact sm _ (by decide +kernel)
      · exact ⟨.tuple [.str "a"], .tup (SqT.of ata) (.cons (.str "a") .nil), fun y e => by (cases e), rfl, by decide +kernel⟩
      · exact sm _ (by decide +kernel)
      · exact sm _ (by decide +kernel)
      · exact ⟨_, .int 2, small_int _⟩
    refine ⟨by show 1 ≤ sizeLine; decide, fun r nr => ?_⟩
    have rd := d5.ne nr
    have s6 := s5.trans (SB.of (same_upd (o := .tup [v]) nr))
    have hds1 := dpAll_same s6.hid _ _ hds
    have d6 := d5.upd (o := .tup [v]) rd
    have hp16 := sqT_sb d4 ((SB.but b5).trans (SB.of (same_upd (o := .tup [v]) nr))) hp1
    have lx := dpAll_len hds
    have lt4 : ds0.length = 4 := by
      obtain ⟨_, _, _, _, e⟩ := bar_shape be
      cases e
      rfl
    have lj := List.length_take_le j xs
    refine catA_of rfl rfl hp16 (SqT.of upd_same) (Nat.le_trans (show (xs.take j).length + [v].length ≤ 10 by rw [List.length_singleton]; rw [List.length_take]; omega) (by decide)) fun p2 H7 s7 hp2 => ?_
    have s7' := s6.trans (SB.of s7)
    have d7 := d6.keep s7
    refine ⟨_, rfl, _, rfl, _, _, rfl, rfl, _, rfl, ?_⟩
    dsimp only [tNoPart]
    refine slA_of rfl (sqT_hid s7' hq) fun p4 H8 s8 hp4 => ?_
    rw [show ((j : Int) + 1) = ((j + 1 : Nat) : Int) by omega, cut_drop] at hp4
    have d8 := d7.keep s8
    refine catA_of rfl rfl (sqT_same s8 hp2) hp4 (Nat.le_trans (show (xs.take j ++ [v]).length + (xs.drop (j + 1)).length ≤ 10 by rw [List.length_append, List.length_singleton, List.length_take, List.length_drop]; omega) (by decide)) fun p5 H9 s9 hp5 => ?_
    have d9 := d8.keep s9
    have s9' : SB d H H9 := (s7'.trans (SB.of s8)).trans (SB.of s9)
    have s59 : SB d H5 H9 := (((SB.of (same_upd (o := .tup [v]) nr)).trans (SB.of s7)).trans (SB.of s8)).trans (SB.of s9)
    have near : ∀ {H' : Hp}, SB d H9 H' → Dp K (Hid d H') (.ref p5) (.tuple (ds0.take j ++ [u] ++ ds0.drop (j + 1))) := fun s' =>
      .tup (sqT_same s'.hid (sqT_to d9 hp5)) (dpAll_app (dpAll_app (dpAll_take j (dpAll_same (s9'.trans s').hid _ _ hds)) (.cons (dp_same (s59.trans s').hid _ _ dv) .nil)) (dpAll_drop (j + 1) (dpAll_same (s9'.trans s').hid _ _ hds)))
    have fnear : Fine (.tuple (ds0.take j ++ [u] ++ ds0.drop (j + 1))) := fine_tup fun z hz => by
      rcases List.mem_append.mp hz with hz | hz
      · rcases List.mem_append.mp hz with hz | hz
        · exact sb4 z (List.mem_of_mem_take hz)
        · rw [List.mem_singleton.mp hz]; exact su
      · exact sb4 z (List.mem_of_mem_drop hz)
    refine ⟨_, rfl, _, rfl, _, rfl, _, rfl, _, rfl, p, xs, rfl, .inr (sqT_hid s9' hq), fun l nl => ?_⟩
    have dl := d9.keep (same_upd (o := .lst xs) nl)
    have ld := d9.ne nl
    have s10 : SB d H9 (upd H9 l (.lst xs)) := SB.of (same_upd nl)
    have s10' := s9'.trans s10
    refine ⟨_, rfl, _, rfl, ?_⟩
    refine slA_of rfl (sqT_hid s10' hq) fun p6 H11 s11 hp6 => ?_
    have hp6 : SqT K H11 p6 (cutV xs none (some ((3 : Nat) : Int))) := hp6
    rw [cut_take] at hp6
    have d11 := dl.keep s11
    have s11' := s10'.trans (SB.of s11)
    refine ⟨_, rfl, by show 1 ≤ sizeLine; decide, fun p7 np7 => ?_⟩
    have s12 := s11'.trans (SB.of (same_upd (o := .tup [.int 0]) np7))
    have d12 := d11.keep (same_upd (o := .tup [.int 0]) np7)
    refine catA_of rfl rfl (sqT_hid s12 hq) (SqT.of upd_same) (Nat.le_trans (show xs.length + [V.int 0].length ≤ 10 by rw [List.length_singleton]; omega) (by decide)) fun p8 H13 s13 hp8 => ?_
    have d13 := d12.keep s13
    have s13' := s12.trans (SB.of s13)
    refine ⟨_, rfl, by show 9 ≤ sizeLine; decide, fun m nm => ?_⟩
    have md := d13.ne nm
    refine ⟨d, m, _, rfl, d13.upd md, upd_same, md, (by show 0 < 9; decide), (by show 9 < 1000; decide), fun y H14 hy d14 b14 => ?_⟩
    have t13 : SB d H13 H14 := (SB.of (same_upd (o := .lst [.ref p5, .ref p5, .ref p5, .ref l, .ref p6, .ref p8, .non, .str "child", .ref p]) nm)).trans (SB.but b14)
    have t14 : SB d H H14 := s13'.trans t13
    have t12 := ((SB.of (same_upd (o := .tup [.int 0]) np7)).trans (SB.of s13)).trans t13
    have t11 : SB d (upd H9 l (.lst xs)) H14 := (SB.of s11).trans t12
    have fit : ∀ u, Fine u → Dp K (Hid d H14) y u → Q y H14 := fun u fu du => q y H14 u d14 t14 fu du
    simp only [List.mem_cons, List.not_mem_nil, or_false] at hy
    rcases hy with rfl | rfl | rfl | rfl | rfl | rfl | rfl | rfl | rfl
    · exact fit _ fnear (near (s10.trans t11))
    · exact fit _ fnear (near (s10.trans t11))
    · exact fit _ fnear (near (s10.trans t11))
    · exact fit (.list ds0) (fine_lst sb4) (.lst (SqL.of (hid_of ld (t11 _ _ ld upd_same))) (dpAll_same t14.hid _ _ hds))
    · exact fit (.tuple (ds0.take 3)) (fine_tup fun z hz => sb4 z (List.mem_of_mem_take hz)) (.tup (sqT_same t12.hid (sqT_to d11 hp6)) (dpAll_take 3 (dpAll_same t14.hid _ _ hds)))
    · refine fit (.tuple (ds0 ++ [.int 0])) (fine_tup fun z hz => ?_) (.tup (sqT_same t13.hid (sqT_to d13 hp8)) (dpAll_app (dpAll_same t14.hid _ _ hds) (.cons (.int 0) .nil)))
      rcases List.mem_append.mp hz with hz | hz
      · exact sb4 z hz
      · rw [List.mem_singleton.mp hz]; exact small_int 0
    · exact fit .none ⟨fun y e => by (cases e), rfl, by decide +kernel⟩ .non
    · exact fit (.str "child") ⟨fun y e => by (cases e), rfl, by decide +kernel⟩ (.str _)
    · exact fit (.tuple ds0) (fine_tup sb4) (.tup (sqT_same t14.hid hq) (dpAll_same t14.hid _ _ hds))
end
end LR
set_option Elab.async false
set_option linter.all false
set_option maxRecDepth 100000
set_option maxHeartbeats 4000000
namespace LR
open PySem PySem.Spec PyProof.Rows L2 CG SN KD
open PySem.W (kitOne Frag excIn keepIn subIn typeIn findIn exmOne)
/-! ### repr of data -/
def MayShow (d : PyData) : Prop := d.showable = true ∧ d.hasDict = false ∧ d.depth ≤ 10 ∧ d.shown.length ≤ sizeLine
theorem call_reprD {X : Cx} (hg : X.A.guards = some []) (hu : X.A.units + 64 < cLine) : CallR X (.builtin "repr") (fun xs H Q => ∃ x d, xs = [x] ∧ Dp X.K H x d ∧ MayShow d ∧ Q (.str d.shown) H) := by
  intro pins s σ H xs us Q I r h
  obtain ⟨x, d, rfl, dp, ⟨sh, nd, de, len⟩, q⟩ := h
  have ofRef : ∀ a, x = .ref a → wpAny (model X.prog X.w) X.A (call (.builtin "repr") us) (EP X pins σ Q) X.xe s := fun a e => by
    subst e
    exact call_repr_data hg pins s σ H [.ref a] us Q I r ⟨a, d, rfl, fun pins σ s u I ru => by
      obtain ⟨as, q⟩ := Dp.reads I _ _ _ dp ru
      exact ⟨as, q, fun z => by rw [nd] at z; cases z⟩, sh, by omega, len, q⟩
  obtain ⟨u, rfl, ru⟩ := vals1 r
  cases dp with
  | non =>
    have ru' : u = Value.none := ru
    subst ru'
    exact PySem.P.repr_of_none ⟨.str _, H, I.tok _, ⟨_, rfl⟩, q⟩
  | bl b =>
    have ru' : u = Value.bool b := ru
    subst ru'
    refine PySem.P.repr_of_bool ?_
    cases b
    · exact ⟨.str _, H, I.tok _, ⟨_, rfl⟩, q⟩
    · exact ⟨.str _, H, I.tok _, ⟨_, rfl⟩, q⟩
  | int i =>
    obtain ⟨t, rfl⟩ := ru
    exact PySem.P.repr_of_int (of_decide_eq_true sh) ⟨.str _, H, I.tok _, ⟨_, rfl⟩, q⟩
  | str z =>
    obtain ⟨t, rfl⟩ := ru
    exact PySem.P.repr_of_str ⟨.str _, H, I.tok _, ⟨_, rfl⟩, q⟩ len
  | lst hq ha => exact ofRef _ rfl
  | tup hq ha => exact ofRef _ rfl
/-! ### how long -/
theorem name_short {z : Str} (h : isName z.cps.toList = true) : z.length ≤ 8 ∧ ∀ c ∈ z.cps.toList, c < 16 ^ 8 := by
  unfold isName isWord smallL at h
  simp only [Bool.and_eq_true, decide_eq_true_eq, List.all_eq_true] at h
  refine ⟨by rw [len_cps]; exact h.1.1.1.2, fun c hc => ?_⟩
  have z := h.1.1.2 c hc
  unfold low at z
  have := of_decide_eq_true z
  omega
theorem piled_le : ∀ (ts : List Str) (m : Nat), (∀ t ∈ ts, t.length ≤ m) → piled ts ≤ ts.length * (m + 2)
  | [], _, _ => Nat.zero_le _
  | t :: ts, m, h => by
    have a := piled_le ts m fun x hx => h x (List.mem_cons_of_mem _ hx)
    have b := h t List.mem_cons_self
    have e : piled (t :: ts) = t.length + 2 + piled ts := by simp [piled]
    rw [e, List.length_cons, Nat.succ_mul]
    omega
theorem tuple_len (ts : List Str) (m : Nat) (h : ∀ t ∈ ts, t.length ≤ m) : (tupleText ts).length ≤ 3 + ts.length * (m + 2) := by
  have p := piled_le ts m h
  have j : (Str.join ", " ts).length ≤ piled ts := by
    cases hh : ts with
    | nil => exact Nat.zero_le _
    | cons x r =>
      have := PySem.join_length_add (x :: r) (by simp)
      omega
  unfold tupleText
  rw [strLen_append, strLen_append]
  have h1 : (Str.ofString "(").length = 1 := by decide +kernel
  have h2 : (Str.ofString (if ts.length == 1 then ",)" else ")")).length ≤ 2 := by split <;> decide +kernel
  have h1' : ("(" : Str).length = 1 := h1
  omega
theorem from_len : ∀ (ts : List Str) (k : Nat) (acc : Str), (textFrom k acc ts).length ≤ acc.length + piled ts
  | [], _, _ => Nat.le_add_right _ _
  | t :: ts, k, acc => by
    have ih := from_len ts (k + 1) (acc ++ (if k > 0 then ", " else "" : String) ++ t)
    have e : piled (t :: ts) = t.length + 2 + piled ts := by simp [piled]
    have e2 : (acc ++ (if k > 0 then ", " else "" : String) ++ t).length ≤ acc.length + 2 + t.length := by
      rw [strLen_append, strLen_append]
      have : (Str.ofString (if k > 0 then ", " else "")).length ≤ 2 := by split <;> decide +kernel
      omega
    show (textFrom (k + 1) _ ts).length ≤ _
    omega
theorem list_len (ts : List Str) (m : Nat) (h : ∀ t ∈ ts, t.length ≤ m) : (listText ts).length ≤ 2 + ts.length * (m + 2) := by
  have p := piled_le ts m h
  have f := from_len ts 0 "["
  unfold listText
  rw [strLen_append]
  have h1 : (Str.ofString "[").length = 1 := by decide +kernel
  have h2 : (Str.ofString "]").length = 1 := by decide +kernel
  have h1' : ("[" : Str).length = 1 := h1
  have h2' : ("]" : Str).length = 1 := h2
  omega
theorem shownAll_map : ∀ ds : List PyData, PyData.shownAll ds = ds.map PyData.shown
  | [] => rfl
  | d :: ds => by show d.shown :: PyData.shownAll ds = _; rw [shownAll_map ds]; rfl
/-- shown within m signs -/
structure Shw (d : PyData) (m k : Nat) : Prop where
  sh : d.showable = true
  nd : d.hasDict = false
  dp : d.depth ≤ k
  ln : d.shown.length ≤ m
theorem Shw.may {d : PyData} {m k : Nat} (s : Shw d m k) (hm : m ≤ 100000) (hk : k ≤ 10) : MayShow d := ⟨s.sh, s.nd, by have := s.dp; omega, Nat.le_trans s.ln (Nat.le_trans hm (by decide))⟩
theorem shw_all {ds : List PyData} {m k : Nat} (h : ∀ d ∈ ds, Shw d m k) : PyData.showableAll ds = true ∧ PyData.hasDictAll ds = false ∧ PyData.depthAll ds ≤ k ∧ ∀ t ∈ PyData.shownAll ds, t.length ≤ m := by
  induction ds with
  | nil => exact ⟨rfl, rfl, by simp [PyData.depthAll], fun t ht => by cases ht⟩
  | cons d ds ih =>
    obtain ⟨a, b, c, e⟩ := ih fun e he => h e (List.mem_cons_of_mem _ he)
    obtain ⟨a', b', c', e'⟩ := h d List.mem_cons_self
    refine ⟨by show (d.showable && PyData.showableAll ds) = true; rw [a, a']; rfl, by show (d.hasDict || PyData.hasDictAll ds) = false; rw [b, b']; rfl, ?_, fun t ht => ?_⟩
    · simp only [PyData.depthAll]
      omega
    · have ht' : t ∈ d.shown :: PyData.shownAll ds := ht
      rcases List.mem_cons.mp ht' with rfl | h
      · exact e'
      · exact e t h
theorem shw_tup {ds : List PyData} {m k n : Nat} (h : ∀ d ∈ ds, Shw d m k) (hn : ds.length ≤ n) : Shw (.tuple ds) (3 + n * (m + 2)) (k + 1) := by
  obtain ⟨a, b, c, e⟩ := shw_all h
  refine ⟨a, b, by simp only [PyData.depth]; omega, ?_⟩
  refine Nat.le_trans (tuple_len _ m e) ?_
  rw [shownAll_map, List.length_map]
  exact Nat.add_le_add_left (Nat.mul_le_mul_right _ hn) _
theorem shw_lst {ds : List PyData} {m k n : Nat} (h : ∀ d ∈ ds, Shw d m k) (hn : ds.length ≤ n) : Shw (.list ds) (2 + n * (m + 2)) (k + 1) := by
  obtain ⟨a, b, c, e⟩ := shw_all h
  refine ⟨a, b, by simp only [PyData.depth]; omega, ?_⟩
  refine Nat.le_trans (list_len _ m e) ?_
  rw [shownAll_map, List.length_map]
  exact Nat.add_le_add_left (Nat.mul_le_mul_right _ hn) _
theorem Shw.mono {d : PyData} {m k m' k' : Nat} (s : Shw d m k) (hm : m ≤ m') (hk : k ≤ k') : Shw d m' k' := ⟨s.sh, s.nd, Nat.le_trans s.dp hk, Nat.le_trans s.ln hm⟩
theorem shw_name {z : Str} (h : isName z.cps.toList = true) : Shw (.str z) 82 0 := by
  obtain ⟨a, b⟩ := name_short h
  refine ⟨rfl, rfl, by simp [PyData.depth], ?_⟩
  have := PySem.StrLaws.reprText_len z b
  show (reprText z).length ≤ 82
  omega
theorem shw_bool (b : Bool) : Shw (.bool b) 82 0 := by cases b <;> exact ⟨rfl, rfl, by decide +kernel, by decide +kernel⟩
theorem shw_small {n : Nat} (h : n ≤ 60) : Shw (.int n) 82 0 := by
  have z : ((List.range 61).all fun n => decide (((n : Nat) : Int).natAbs.log2 < 1920) && decide ((toString ((n : Nat) : Int) : Str).length ≤ 82)) = true := by decide +kernel
  have y := List.all_eq_true.mp z n (List.mem_range.mpr (by omega))
  simp only [Bool.and_eq_true, decide_eq_true_eq] at y
  exact ⟨decide_eq_true y.1, rfl, by simp [PyData.depth], y.2⟩
theorem shw_text {n : Nat} (h : n ≤ 60) : Shw (.str (textOf n)) 200 0 := by
  have z : ((List.range 61).all fun n => decide ((reprText (textOf ((n : Nat) : Int))).length ≤ 200)) = true := by decide +kernel
  have y := of_decide_eq_true (List.all_eq_true.mp z n (List.mem_range.mpr (by omega)))
  exact ⟨rfl, rfl, by simp [PyData.depth], y⟩
theorem shw_bar {d : PyData} (b : barB d = true) : Shw d 339 1 := by
  obtain ⟨h, o, i, n, rfl⟩ := bar_shape b
  simp only [barB, Bool.and_eq_true] at b
  obtain ⟨⟨⟨b1, b2⟩, b3⟩, b4⟩ := b
  refine (shw_tup (ds := [.str h, .str o, .int i, .str n]) (n := 4) (m := 82) (k := 0) (fun d hd => ?_) (Nat.le_refl 4)).mono (by decide) (by decide)
  simp only [List.mem_cons, List.not_mem_nil, or_false] at hd
  rcases hd with rfl | rfl | rfl | rfl
  · unfold howB at b1
    simp only [Bool.or_eq_true, decide_eq_true_eq] at b1
    rcases b1 with (rfl | rfl) | rfl <;> exact ⟨rfl, rfl, by decide +kernel, by decide +kernel⟩
  · exact shw_name b2
  · unfold idxB at b3
    simp only [Bool.and_eq_true, decide_eq_true_eq] at b3
    obtain ⟨j, rfl⟩ := Int.eq_ofNat_of_zero_le b3.1
    exact shw_small (n := j) (by omega)
  · exact shw_name b4
theorem shw_bars {ds : List PyData} (b : ∀ d ∈ ds, barB d = true) (n : ds.length ≤ 60) : Shw (.tuple ds) 21000 2 :=
  (shw_tup (n := 60) (fun d hd => shw_bar (b d hd)) n).mono (by decide) (by decide)
theorem shw_good {ds : List PyData} (g : goodB ds = true) : Shw (.tuple ds) 21000 2 := by
  obtain ⟨a, b, _⟩ := goodB_iff.mp g
  exact shw_bars b a
end LR
set_option Elab.async false
set_option linter.all false
set_option maxRecDepth 100000
set_option maxHeartbeats 4000000
namespace LR
open PySem PySem.Spec PyProof.Rows L2 CG SN KD OW
open PySem.W (kitOne Frag excIn keepIn subIn typeIn findIn exmOne)
/-! ### what filters tell -/
structure Ops (P : Program) (w : World) (K : Frag) (mg : Str → Option Value) (base : Heap) (CF : Addr) : Prop where
  eq : ∃ f fd, Dun K CF "__eq__" f fd ["self", "other"] ∧ FnOk P w K mg base CX0 1 f fd ["self", "other"] (spEqF K CF)
  has : ∃ f fd, Dun K CF "__contains__" f fd ["self", "x"] ∧ FnOk P w K mg base CX0 6 f fd ["self", "x"] (spHasF K CF)
  len : ∃ f fd, Dun K CF "__len__" f fd ["self"] ∧ FnOk P w K mg base CX0 1 f fd ["self"] (spLenF K CF)
  bool : ∃ f fd, Dun K CF "__bool__" f fd ["self"] ∧ FnOk P w K mg base CX0 1 f fd ["self"] (spBoolF K CF)
  str : ∃ f fd, Dun K CF "__str__" f fd ["self"] ∧ FnOk P w K mg base CX0 1 f fd ["self"] (spStrF K CF)
  ne : findIn K (.ref CF) "__ne__" = some (some (.builtin "object.__ne__"))
def Has (K : Frag) (mg : Str → Option Value) (n : Str) (ps : List Str) (p : Addr → FuncData → Prop) : Prop := ∃ (f : Addr) (fd : FuncData), p f fd ∧ mg n = some (.ref f) ∧ keepIn K (.ref f) = true ∧ Binds K fd ps []
structure Lib (P : Program) (w : World) (K : Frag) (mg : Str → Option Value) (base : Heap) (CF cI : Addr) : Prop where
  roll : Has K mg "_law_roll" ["_law_dice_here", "_law_total"] fun f fd => FnOk P w K mg base CX0 1 f fd ["_law_dice_here", "_law_total"] spRoll
  pick : Has K mg "_law_pick" ["_law_dice_here", "_law_items"] fun f fd => FnOk P w K mg base CX0 2 f fd ["_law_dice_here", "_law_items"] spPick
  some_ : Has K mg "_law_some" ["_law_dice_here", "_law_items", "_law_lots"] fun f fd => FnOk P w K mg base CX0 2 f fd ["_law_dice_here", "_law_items", "_law_lots"] spSome
  isbar : Has K mg "_law_is_bar" ["_law_value"] fun f fd => FnOk P w K mg base CX0 1 f fd ["_law_value"] (spIsB K)
  bar : Has K mg "_law_bar" ["_law_dice_here"] fun f fd => FnOk P w K mg base CX0 3 f fd ["_law_dice_here"] (spBar K)
  bent : Has K mg "_law_bent" ["_law_dice_here", "_law_bar_here"] fun f fd => FnOk P w K mg base CX0 3 f fd ["_law_dice_here", "_law_bar_here"] (spBent K)
  made : Has K mg "_law_made_of" ["_law_value"] fun f fd => FnOk P w K mg base CX0 8 f fd ["_law_value"] (spDue K)
  due : Has K mg "_law_due" ["_law_value"] fun f fd => FnOk P w K mg base CX0 2 f fd ["_law_value"] (spDue K)
theorem eqv_bars {bs : List PyData} (b : ∀ d ∈ bs, barB d = true) : PyData.eqv (.tuple bs) (.tuple bs) = true := PySem.SeqAt.eqv_refl_plain _ (plain_all b)
theorem sort_of {K : Frag} {H : Hp} {a : Addr} {xs : List V} {bs : List PyData} {Q : VK} (hq : SqL K H a xs ∨ SqT K H a xs) (hd : DpAll K H xs bs) (allb : ∀ d ∈ bs, barB d = true) (len : bs.length ≤ 20000)
    (q : ∀ l zs, H l = none → DpAll K (upd H l (.lst zs)) zs (sortD bs) → Q (.ref l) (upd H l (.lst zs))) : rSortD K [.ref a] H Q := by
  obtain ⟨ks, k1, k2, k3⟩ := keys_of hd allb
  have kd := data_keys k2 allb
  have kl : ks.length = bs.length := by have z := congrArg List.length k2; rw [List.length_map, List.length_map] at z; exact z
  obtain ⟨so1, so2⟩ := bars_sort allb
  refine ⟨a, ks, rfl, by rw [k1]; exact hq, fun e he => (k3 e he).1, fun e he => ?_, by rw [kd]; exact so1, by rw [kd]; exact so2, by rw [kl]; exact Nat.le_trans len (by decide), fun l nl => q l _ nl ?_⟩
  · have : e.2.data ∈ bs := by rw [← kd]; exact List.mem_map.mpr ⟨e, he, rfl⟩
    exact (bar_depth (allb _ this)).1
  · rw [← kd, ← sort_keys]
    exact dpAll_of fun e he => by
      have he2 : e ∈ ks := (List.mergeSort_perm ks _).mem_iff.mp he
      exact ⟨dp_same (same_upd nl) _ _ (k3 e he2).1, (k3 e he2).2⟩
abbrev NT : List Str := ["_law_dice_here", "_law_bars", "_law_made", "_law_told", "_law_turn", "_law_value", "_law_one"]
theorem scTo : FnScope NT ["_law_dice_here", "_law_bars", "_law_made"] (defScope sToldR) := ⟨rfl, rfl, rfl, by decide +kernel, rfl, by decide +kernel, by decide +kernel⟩
def spToldR (K : Frag) (CF : Addr) : Sp := fun vs H Q _ => ∃ (d l m : Addr) (xs : List V) (bs : List PyData), vs = [.ref d, .ref l, .ref m] ∧ DiceAt H d ∧ H l = some (.lst xs) ∧ l ≠ d ∧ DpAll K (Hid d H) xs bs ∧ goodB bs = true ∧ bs.length ≤ 45 ∧ FB K CF (Hid d H) m (sortD bs) ∧
  ∀ H', DiceAt H' d → SB d H H' → Q (.bl true) H'
end LR
set_option Elab.async false
set_option linter.all false
set_option maxRecDepth 100000
set_option maxHeartbeats 4000000
namespace LR
open PySem PySem.Spec PyProof.Rows L2 CG SN KD OW
open PySem.W (kitOne Frag excIn keepIn subIn typeIn findIn exmOne)
section
variable {P : Program} {w : World} {K : Frag} {mg : Str → Option Value} {base : Heap} {CF cI cO : Addr}
theorem passF {X : Cx} : Passes (L2.CX X.prog X.w) X E0 := fun _ _ _ _ _ _ _ ⟨_, _, _, _, _, _, _, _, _, _, _, _, z⟩ => z.elim
theorem op_eqOk {X : Cx} {k : Nat} {f : Addr} {fd : FuncData} {ps : List Str} {sp : Sp} {E : XK} {CX : CXT} (hk : X.K = K) (F : FnOk X.prog X.w X.K X.mg X.base CX k f fd ps sp) (hr : Room k X.A) (D : Dun X.K CF "__eq__" f fd ps) (hx : Passes CX X E) : OpR X (compareOp .Eq) (rEqO K CF sp E) := by subst hk; exact op_eqO F hr D hx
theorem mk_argR {K : Frag} {CF cI : Addr} {H1 : Hp} {x : V} {o : Option (List PyData)} {R : Addr → VK} {E : XK} (arg : Arg K H1 x o)
    (qq : ∀ ds, o = some ds → goodB ds = true → ∀ H' b, Same H1 H' → H1 b = none → FB K CF H' b (sortD ds) → R b .non H') (ee : goodO o = false → ∀ H', Same H1 H' → E (.ref cI) none H') :
    ∀ y dy, H1 y = none → H1 dy = none → dy ≠ y → spFInit K CF cI [.ref y, x] (upd (upd H1 dy (.own y)) y (.ins CF dy [])) (R y) E := by
  intro y dy ny ndy ne
  have s0 : Same H1 (upd (upd H1 dy (.own y)) y (.ins CF dy [])) := fun b o e => by
    rw [upd_ne (ne_of_none e ny), upd_ne (ne_of_none e ndy)]
    exact e
  refine ⟨y, dy, x, o, rfl, upd_same, ?_, fun ds e g H' p s np dp => ?_, fun g H' s => ee g H' (s0.trans s)⟩
  · cases arg with
    | no t k => exact .no (tyx_same s0 t) k
    | yes d ok l => exact .yes (dp_same s0 _ _ d) ok l
  · have at0 := s _ _ (upd_same (H := upd H1 dy (.own y)) (a := y) (o := HO.ins CF dy []))
    refine qq ds e g _ y (fun b o z => ?_) ny ⟨p, ⟨dy, upd_same⟩, dp_q (upd_q at0) _ _ dp⟩
    rw [upd_ne (ne_of_none z ny)]
    exact s _ _ (s0 _ _ z)
theorem dpAll_rev {K : Frag} {H : Hp} : ∀ {xs : List V} {ds : List PyData}, DpAll K H xs ds → DpAll K H xs.reverse ds.reverse
  | _, _, .nil => .nil
  | _, _, .cons a t => by rw [List.reverse_cons, List.reverse_cons]; exact dpAll_app (dpAll_rev t) (.cons a .nil)
theorem with_cont {te : TE} {σ : L2.St} {H : Hp} {R : VK} {G : V → Hp → Prop} (main : (∀ v' H8, G v' H8 → R v' H8) → te σ H R) (cont : ∀ v' H8, G v' H8 → R v' H8) : te σ H R := main cont
theorem scal_str (a b : Str) : scal (.str a) (.str b) = true := rfl
theorem ok_toldR {f : Addr} {fd : FuncData} (F : Fun K "_law_told_right" "_law_told_right" sToldR f fd) (C : Cm P w K mg base CF cI cO) (O : Ops P w K mg base CF) (L : Lib P w K mg base CF cI) :
    FnG P w K mg base CX0 9 f fd ["_law_dice_here", "_law_bars", "_law_made"] (spToldR K CF) := by
  obtain ⟨pp, gp, dp, PR, GP, bP⟩ := C.pr
  obtain ⟨fm, dm, MK, GM, bM⟩ := C.make
  have T := C.sy
  obtain ⟨fe, de, De, Ge⟩ := O.eq
  obtain ⟨fh, dh, Dh, Gh⟩ := O.has
  obtain ⟨fl, dl, Dl, Gl⟩ := O.len
  obtain ⟨fb, db, Db, Gb⟩ := O.bool
  obtain ⟨fs, ds, Ds, Gs⟩ := O.str
  obtain ⟨fR, dR, GR, gR, kR, bR⟩ := L.roll
  obtain ⟨fP, dP, GPk, gPk, kPk, bPk⟩ := L.pick
  obtain ⟨fI, dI, GI, gI, kI, bI⟩ := L.isbar
  obtain ⟨fB, dB, GB, gB, kB, bB⟩ := L.bar
  obtain ⟨fN, dN, GN, gN, kN, bN⟩ := L.bent
  refine fnG_of F scTo (fun vs H Q E h => ?_) (fun cdv A outer s H vs Q E hr hg h => ?_)
  · obtain ⟨d, l, m, xs, bs, rfl, _⟩ := h
    rfl
  · obtain ⟨d, l, m, xs, bs, rfl, hd, hl, ld, hb, gb, lb, hm, q⟩ := h
    have hr1 : Room 1 _ := hr.mono (by decide)
    have hr2 : Room 2 _ := hr.mono (by decide)
    have hr3 : Room 3 _ := hr.mono (by decide)
    have hr6 : Room 6 _ := hr.mono (by decide)
    have hr7 : Room 7 _ := hr.mono (by decide)
    have hu := hr.units
    refine ⟨_, PSs.nox (pss_cons (ps_set (i := 3) scTo.nd rfl (Or.inl rfl) (pe_lst (pa_cons (pe_prop (pv 2) C.fc.cl PR GP hr2 bP .nil pass0 rfl) (pa_cons (pe_callB (call_lenO Gl hr2 Dl pass0) (by rfl) T.len PySem.boot_len (pa_cons (pv 2) pa_nil))
          (pa_cons (pe_callTy (call_boolO Gb hr3 Db pass0) (by rfl) T.bool PyProof.Rows.boot_bool (pa_cons (pv 2) pa_nil)) (pa_cons (pe_callTy (call_strO Gs hr3 Ds pass0) (by rfl) T.str PyProof.Rows.boot_str (pa_cons (pv 2) pa_nil)) pa_nil))))))
      (pss_cons (ps_if (pt_cmpR op_ne (pe_callB (call_reprD hg hu) (by rfl) T.repr PyProof.Rows.boot_repr (pa_cons (pv 3) pa_nil)) (pe_callB (call_reprD hg hu) (by rfl) T.repr PyProof.Rows.boot_repr (pa_cons (pe_lst
          (pa_cons (pe_callTy call_tuple_of (by rfl) T.tuple PyProof.Rows.boot_tuple (pa_cons (pe_callB (cr_sortD hr.units) (by rfl) T.sorted (by decide +kernel) (pa_cons (pv 1) pa_nil)) pa_nil))
          (pa_cons (pe_callB call_len (by rfl) T.len PySem.boot_len (pa_cons (pv 1) pa_nil)) (pa_cons (pe_cmpR (op_neK (K := K) rfl hr.units) (pv 1) (pe_lst pa_nil) (nomark _))
          (pa_cons (pe_joined (.cons pe_str (.cons (pe_fmt (pe_callB call_len (by rfl) T.len PySem.boot_len (pa_cons (pv 1) pa_nil))) (.cons pe_str .nil)))) pa_nil))))) pa_nil)) (nomark _))
        (pss_one (ps_ret pe_bl)) pss_nil)
      (pss_cons (ps_for PassesOwn.never rfl (pi_range1 rfl T.range (pa_cons pe_int pa_nil)) (pg_name (i := 4) scTo.nd rfl (Or.inl rfl))
        (pss_cons (ps_set (i := 5) scTo.nd rfl (Or.inl rfl) (pe_call GPk hr2 rfl gPk kPk bPk .nil pass0 (pa_cons (pv 0) (pa_cons (pe_op op_cat (pv 1) (pe_lst (pa_cons (pe_call GB hr3 rfl gB kB bB .nil pass0 (pa_cons (pv 0) pa_nil))
            (pa_cons (pe_call GB hr3 rfl gB kB bB .nil pass0 (pa_cons (pv 0) pa_nil)) (pa_cons pe_non (pa_cons pe_int (pa_cons (pe_lst pa_nil) (pa_cons (pe_tup pa_nil) pa_nil)))))))) pa_nil))))
        (pss_cons (ps_set (i := 5) scTo.nd rfl (Or.inl rfl) (pe_ifExp (PW.pt (pw_and (pt_val (pe_callB call_isi (by rfl) T.isi PyProof.Rows.boot_isinstance (pa_cons (pv 5) (pa_cons (pe_bltn (v := .ty "tuple") (by rfl) T.tuple PyProof.Rows.boot_tuple rfl) pa_nil))))
            (pw_and (pt_cmpR op_eq (pe_callB call_len_seq (by rfl) T.len PySem.boot_len (pa_cons (pv 5) pa_nil)) pe_int (nomark _)) (pw_and1 (pt_cmpR op_gt (pv 4) pe_int (nomark _))))))
            (pe_call GN hr3 rfl gN kN bN .nil pass0 (pa_cons (pv 0) (pa_cons (pv 5) pa_nil))) (pv 5)))
        (pss_one (ps_if (pt_cmpR op_ne (pe_callB (call_reprD hg hu) (by rfl) T.repr PyProof.Rows.boot_repr (pa_cons (pe_cmpR (op_inO Gh hr6 Dh pass0) (pv 5) (pv 2) (by rfl)) pa_nil))
            (pe_callB (call_reprD hg hu) (by rfl) T.repr PyProof.Rows.boot_repr (pa_cons (pe_and (pe_cmpR (op_inL hr.units) (pv 5) (pv 1) (by rfl)) (pe_one (pe_call GI hr1 rfl gI kI bI .nil pass0 (pa_cons (pv 5) pa_nil)))) pa_nil)) (nomark _))
          (pss_one (ps_ret pe_bl)) pss_nil)))))
      (pss_cons (ps_if (pt_cmpR (op_neK (K := K) rfl hr.units) (pe_lc (own := [("_law_one", 6)]) (g := gName 6) (tt := tYes) rfl scTo.nd (pi_list (pe_lst (pa_cons pe_non (pa_cons (pe_callTy call_tuple_of (by rfl) T.tuple PyProof.Rows.boot_tuple (pa_cons (pv 1) pa_nil))
            (pa_cons (pv 1) (pa_cons pe_int (pa_cons (pe_callTy (call_strO Gs hr3 Ds pass0) (by rfl) T.str PyProof.Rows.boot_str (pa_cons (pv 2) pa_nil)) pa_nil)))))))
            (blkOk_by (N := NT) (sc := defScope sToldR) (by decide +kernel)) (fun _ _ _ _ _ => pg_name (i := 6) scTo.nd rfl (Or.inl rfl)) (fun _ _ _ _ _ => pts_nil)
            (fun _ _ _ _ _ => pe_cmpR (op_eqOk (K := K) rfl Ge hr1 De pass0) (pv 2) (pv 6) (nomark _))) (pe_op op_rep (pe_lst (pa_cons pe_bl pa_nil)) pe_int) (nomark _))
          (pss_one (ps_ret pe_bl)) pss_nil)
      (pss_one (ps_ret (pe_and (pe_cmpR (op_eqO Ge hr1 De pass0) (pv 2) (pe_make MK GM hr7 rfl C.fc.g bM .nil passF (pa_cons (pe_callTy call_tuple_of (by rfl) T.tuple PyProof.Rows.boot_tuple (pa_cons (pe_revL (pv 1)) pa_nil)) pa_nil)) (nomark _))
        (pe_one (pe_not (pe_cmpR (op_neO Ge hr2 De O.ne C.fc.cm pass0) (pv 2) (pe_make MK GM hr7 rfl C.fc.g bM .nil passF (pa_cons (pe_callTy call_tuple_of (by rfl) T.tuple PyProof.Rows.boot_tuple (pa_cons (pv 1) pa_nil)) pa_nil)) (nomark _)))))))))))
      , ?_⟩
    obtain ⟨p, ⟨dx, fa⟩, dpb⟩ := hm
    have md := (hid_some fa).1
    have FH := (hid_some fa).2
    have fbH : FB K CF H m (sortD bs) := ⟨p, ⟨dx, FH⟩, dp_same hid_in _ _ dpb⟩
    obtain ⟨l60, allb, ndb⟩ := goodB_iff.mp gb
    have ls : (sortD bs).length = bs.length := (sortD_perm bs).length_eq
    have alls : ∀ d ∈ sortD bs, barB d = true := fun e he => allb e ((sortD_perm bs).mem_iff.mp he)
    have lxb := dpAll_len hb
    have hbH := dpAll_same hid_in _ _ hb
    refine ⟨_, rfl, m, dx, _, rfl, FH, m, sortD bs, rfl, fbH, fun p1 f1 d1 => ?_⟩
    refine ⟨_, rfl, m, dx, _, rfl, FH, m, sortD bs, rfl, fbH, _, rfl, by omega, by omega, ?_⟩
    refine ⟨_, rfl, m, dx, _, rfl, FH, m, sortD bs, rfl, fbH, _, rfl, ?_⟩
    refine ⟨_, rfl, m, dx, _, rfl, FH, m, sortD bs, rfl, fbH, (by omega), _, rfl, ?_⟩
    refine ⟨by show 4 ≤ sizeLine; decide, fun t nt => ?_⟩
    generalize hH1 : upd H t (.lst [.ref p1, .int (sortD bs).length, .bl (!(sortD bs).isEmpty), .str (textOf (sortD bs).length)]) = H1
    have s1 : Same H H1 := by rw [← hH1]; exact same_upd nt
    have at1 : H1 t = some (.lst [.ref p1, .int (sortD bs).length, .bl (!(sortD bs).isEmpty), .str (textOf (sortD bs).length)]) := by rw [← hH1]; exact upd_same
    have d1' := dp_same s1 _ _ d1
    have eD : ∀ n : Nat, n = bs.length → MayShow (.list [.tuple (sortD bs), .int n, .bool (!(sortD bs).isEmpty), .str (textOf n)]) := fun n hn => by
      refine (shw_lst (n := 4) (m := 21000) (k := 2) (ds := [.tuple (sortD bs), .int n, .bool (!(sortD bs).isEmpty), .str (textOf n)]) (fun e he => ?_) (Nat.le_refl 4)).may (by decide) (by decide)
      simp only [List.mem_cons, List.not_mem_nil, or_false] at he
      rcases he with rfl | rfl | rfl | rfl
      · exact shw_bars alls (by omega)
      · exact (shw_small (by omega)).mono (by decide) (by decide)
      · exact (shw_bool _).mono (by decide) (by decide)
      · exact (shw_text (by omega)).mono (by decide) (by decide)
    refine ⟨_, rfl, _, .list [.tuple (sortD bs), .int (sortD bs).length, .bool (!(sortD bs).isEmpty), .str (textOf (sortD bs).length)], rfl, .lst (SqL.of at1) (.cons d1' (.cons (.int _) (.cons (.bl _) (.cons (.str _) .nil)))), eD _ ls, ?_⟩
    have hl1 : H1 l = some (.lst xs) := s1 _ _ hl
    refine ⟨_, rfl, ?_⟩
    dsimp only [tNil]
    refine sort_of (.inl (SqL.of hl1)) (dpAll_same s1 _ _ hbH) allb (by omega) fun a2 zs n2 dz => ?_
    have s2 := s1.trans (same_upd (o := .lst zs) n2)
    refine ⟨a2, zs, rfl, .inl ⟨SqL.of upd_same, fun a3 n3 => ?_⟩⟩
    have s3 := s2.trans (same_upd (o := .tup zs) n3)
    refine ⟨_, rfl, .ref l, _, rfl, .inl ⟨_, SqL.of (s3 _ _ hl), rfl⟩, ?_⟩
    refine ⟨_, rfl, by show 0 ≤ sizeLine; exact Nat.zero_le _, fun a4 n4 => ?_⟩
    have s4 := s3.trans (same_upd (o := .lst []) n4)
    refine ⟨.list bs, .list [], .lst (SqL.of (s4 _ _ hl)) (dpAll_same s4 _ _ hbH), .lst (SqL.of upd_same) .nil, plain_all allb, rfl, ?_, ?_⟩
    · have := depth_all allb
      simp only [PyData.depth]
      omega
    rw [if_pos rfl, eqv_nilD]
    obtain ⟨t1, t2⟩ := text_len l60
    refine ⟨_, rfl, by decide +kernel, _, rfl, .ref l, _, rfl, .inl ⟨_, SqL.of (s4 _ _ hl), rfl⟩, .inr ⟨_, rfl, ?_, ?_⟩⟩
    · rw [lxb]
      have z : ((List.range 61).all fun n => decide (((n : Nat) : Int).natAbs.log2 < 1920)) = true := by decide +kernel
      exact of_decide_eq_true (List.all_eq_true.mp z _ (List.mem_range.mpr (by omega)))
    rw [lxb]
    refine ⟨_, rfl, Nat.le_trans t1 (by decide), _, rfl, Nat.le_trans t2 (by decide), ?_⟩
    refine ⟨by show 4 ≤ sizeLine; decide, fun a5 n5 => ?_⟩
    rw [show (Str.empty ++ Str.ofString "filter of " ++ Str.ofString (toString ((bs.length : Nat) : Int)) ++ Str.ofString " bars") = textOf (bs.length : Nat) from rfl]
    generalize hX5 : upd (upd (upd (upd H1 a2 (.lst zs)) a3 (.tup zs)) a4 (.lst [])) a5 (.lst [.ref a3, .int bs.length, .bl (!bs.isEmpty), .str (textOf bs.length)]) = H5
    have s5 : Same H H5 := by rw [← hX5]; exact s4.trans (same_upd n5)
    have at5 : H5 a5 = some (.lst [.ref a3, .int bs.length, .bl (!bs.isEmpty), .str (textOf bs.length)]) := by rw [← hX5]; exact upd_same
    have s35 : Same (upd (upd H1 a2 (.lst zs)) a3 (.tup zs)) H5 := by rw [← hX5]; exact (same_upd n4).trans (same_upd n5)
    have s25 : Same (upd H1 a2 (.lst zs)) H5 := (same_upd n3).trans s35
    have a3t : SqT K H5 a3 zs := SqT.of (s35 _ _ upd_same)
    have es : (sortD bs).isEmpty = bs.isEmpty := by cases h1 : sortD bs <;> cases h2 : bs <;> first | rfl | (rw [h1, h2] at ls; cases ls)
    have eD2 := eD bs.length rfl
    refine ⟨_, .list [.tuple (sortD bs), .int bs.length, .bool (!(sortD bs).isEmpty), .str (textOf bs.length)], rfl, ?_, eD2, ?_⟩
    · rw [es]
      exact .lst (SqL.of at5) (.cons (.tup a3t (dpAll_same s25 _ _ dz)) (.cons (.int _) (.cons (.bl _) (.cons (.str _) .nil))))
    rw [ls]
    generalize (PyData.list [PyData.tuple (sortD bs), PyData.int ↑bs.length, PyData.bool !(sortD bs).isEmpty, PyData.str (textOf ↑bs.length)]).shown = S
    refine ⟨rfl, _, rfl, ?_⟩
    rw [show (!decide (V.str S = V.str S)) = false by simp, if_neg Bool.false_ne_true]
    have d5 := hd.keep s5
    refine ⟨_, rfl, by decide, by decide, for_range (n := 4) (fun i σ H' => ∃ v4 v5, σ = [some (.ref d), some (.ref l), some (.ref m), some (.ref t), v4, v5, none] ∧ DiceAt H' d ∧ SB d H H') ⟨none, none, rfl, d5, SB.of s5⟩ ?_ ?_⟩
    · rintro i σ H' hi ⟨v4, v5, rfl, d', s'⟩
      have hl0 : H' l = some (.lst xs) := s' _ _ ld hl
      refine ⟨_, rfl, _, rfl, _, rfl, d, rfl, d', fun p1 G1 e1 g1 t1 b1 q1 => ?_⟩
      refine ⟨_, rfl, d, rfl, g1, fun p2 G2 e2 g2 t2 b2 q2 => ?_⟩
      refine ⟨by show 0 ≤ sizeLine; exact Nat.zero_le _, fun a3 n3 => ?_⟩
      have g3 := g2.keep (same_upd (o := .lst []) n3)
      have a3d := g2.ne n3
      refine ⟨by show 0 ≤ sizeLine; exact Nat.zero_le _, fun a4 n4 => ?_⟩
      have g4 := g3.keep (same_upd (o := .tup []) n4)
      have a4d := g3.ne n4
      refine ⟨by show 6 ≤ sizeLine; decide, fun a5 n5 => ?_⟩
      have g5 := g4.keep (same_upd (o := .lst [.ref p1, .ref p2, .non, .int 0, .ref a3, .ref a4]) n5)
      have t3 : Same G2 (upd (upd (upd G2 a3 (.lst [])) a4 (.tup [])) a5 (.lst [.ref p1, .ref p2, .non, .int 0, .ref a3, .ref a4])) := ((same_upd n3).trans (same_upd n4)).trans (same_upd n5)
      have sG2 := (s'.trans t1).trans t2
      have sG5 := sG2.trans (SB.of t3)
      refine ⟨l, a5, xs, _, rfl, rfl, sG5 _ _ ld hl, upd_same, Nat.le_trans (show xs.length + 6 ≤ 100 by omega) (by decide), fun a6 n6 => ?_⟩
      have a6d := g5.ne n6
      refine ⟨d, a6, _, rfl, g5.upd a6d, upd_same, a6d, (by rw [List.length_append]; exact Nat.lt_of_lt_of_le (show 0 < 6 by decide) (Nat.le_add_left _ _)), (by rw [List.length_append]; show xs.length + 6 < 1000; omega), fun v H7 hv d7 b7 => ?_⟩
      have t56 : SB d G2 H7 := ((SB.of t3).trans (SB.of (same_upd (o := .lst (xs ++ [.ref p1, .ref p2, .non, .int 0, .ref a3, .ref a4])) n6))).trans (SB.but b7)
      have s7 : SB d H H7 := sG2.trans t56
      have hb7 := dpAll_same s7.hid _ _ hb
      obtain ⟨u, du, fu, ub⟩ : ∃ u, Dp K (Hid d H7) v u ∧ Fine u ∧ ∀ ds, u = .tuple ds → ds.length = 4 → barB u = true := by
        rcases List.mem_append.mp hv with hv | hv
        · obtain ⟨j, hj⟩ := List.mem_iff_getElem?.mp hv
          obtain ⟨e, he, de⟩ := dpAll_at hb7 j v hj
          have be := allb e (List.mem_of_getElem? he)
          exact ⟨e, de, fine_bar be, fun _ _ _ => be⟩
        · simp only [List.mem_cons, List.not_mem_nil, or_false] at hv
          rcases hv with rfl | rfl | rfl | rfl | rfl | rfl
          · exact ⟨e1, dp_same (t2.trans t56).hid _ _ q1, fine_bar b1, fun _ _ _ => b1⟩
          · exact ⟨e2, dp_same t56.hid _ _ q2, fine_bar b2, fun _ _ _ => b2⟩
          · exact ⟨_, .non, ⟨fun y e => by (cases e), rfl, by decide +kernel⟩, fun ds e => by (cases e)⟩
          · exact ⟨_, .int 0, ⟨fun y e => by (cases e), rfl, by decide +kernel⟩, fun ds e => by (cases e)⟩
          · have w : SB d (upd G2 a3 (.lst [])) H7 := ((SB.of ((same_upd n4).trans (same_upd n5))).trans (SB.of (same_upd (o := .lst (xs ++ [.ref p1, .ref p2, .non, .int 0, .ref a3, .ref a4])) n6))).trans (SB.but b7)
            exact ⟨.list [], .lst (SqL.of (hid_of a3d (w _ _ a3d upd_same))) .nil, fine_lst fun d hd => by (cases hd), fun ds e => by (cases e)⟩
          · have w : SB d (upd (upd G2 a3 (.lst [])) a4 (.tup [])) H7 := ((SB.of (same_upd n5)).trans (SB.of (same_upd (o := .lst (xs ++ [.ref p1, .ref p2, .non, .int 0, .ref a3, .ref a4])) n6))).trans (SB.but b7)
            exact ⟨.tuple [], .tup (SqT.of (hid_of a4d (w _ _ a4d upd_same))) .nil, fine_tup fun d hd => by (cases hd), fun ds e => by cases e; exact fun z => by cases z⟩
      have duH := dp_same hid_in _ _ du
      obtain ⟨tv, _, ty⟩ := dp_ty duH
      dsimp only [gName, tSeq, tAsg]
      refine with_cont (te := tIf _ _ _) (G := fun v' H8 => ∃ u', DiceAt H8 d ∧ SB d H H8 ∧ Fine u' ∧ Dp K (Hid d H8) v' u') (fun cont => ?main) ?cont
      case main =>
        refine ⟨_, rfl, v, _, tv, _, _, rfl, .ty _, ty.ty, ty.tup, _, rfl, ?_⟩
        cases u with
        | tuple es =>
          obtain ⟨r, ys, ev, hq, hes⟩ : ∃ r ys, v = .ref r ∧ SqT K (Hid d H7) r ys ∧ DpAll K (Hid d H7) ys es := by cases du; exact ⟨_, _, rfl, by assumption, by assumption⟩
          have ly := dpAll_len hes
          refine ⟨_, rfl, r, ys, congrArg (fun z => [z]) ev, .inr (sqT_same hid_in hq), rfl, _, rfl, ite2 (fun h4 => ?_) (fun h4 => ?_)⟩
          · have z4 : es.length = 4 := by
              have : V.int (ys.length : Int) = V.int 4 := of_decide_eq_true h4
              injection this with this
              omega
            have be := ub es rfl z4
            refine ⟨_, rfl, _, _, rfl, rfl, _, rfl, ite2 (fun h5 => ?_) (fun h5 => ?_)⟩
            · refine ⟨_, rfl, _, rfl, d, r, .tuple es, congrArg (fun z => [V.ref d, z]) ev, d7, be, .tup hq hes, fun v' H8 u' d8 s8 fu' dp' => ?_⟩
              exact cont v' H8 ⟨u', d8, s7.trans s8, fu', dp'⟩
            · exact ⟨_, rfl, cont _ H7 ⟨.tuple es, d7, s7, fu, du⟩⟩
          · exact ⟨_, rfl, cont _ H7 ⟨.tuple es, d7, s7, fu, du⟩⟩
        | _ => exact ⟨_, rfl, cont _ H7 ⟨_, d7, s7, fu, du⟩⟩
      case cont =>
        rintro v' H8 ⟨u', d8, s8, fu', dp'⟩
        have hid8 := s8.hid.trans hid_in
        have FH8 : H8 m = some (.ins CF dx [("_bars", .ref p)]) := hid8 _ _ fa
        have fb8 : FB K CF H8 m (sortD bs) := ⟨p, ⟨dx, FH8⟩, dp_same hid8 _ _ dpb⟩
        have hl8 : H8 l = some (.lst xs) := s8 _ _ ld hl
        have hb8 := dpAll_same hid8 _ _ hb
        have dp8 := dp_same hid_in _ _ dp'
        have mb : ∀ b : Bool, MayShow (.bool b) := fun b => (shw_bool b).may (by decide) (by decide)
        refine ⟨_, rfl, _, rfl, m, dx, _, rfl, FH8, m, sortD bs, v', u', rfl, fb8, alls, dp8, fu'.ok, fun H9 s9 => ⟨_, rfl, ?_⟩⟩
        refine ⟨_, .bool (barB u' && hasB (sortD bs) u'), rfl, .bl _, mb _, ?_⟩
        refine ⟨_, rfl, _, rfl, u', bs, dp_same s9 _ _ dp8, .lst (SqL.of (s9 _ _ hl8)) (dpAll_same s9 _ _ hb8), plain_all allb, fu'.pl, Nat.le_trans (depth_all allb) (by decide), ?_⟩
        rw [if_neg Bool.false_ne_true, hasB_perm (sortD_perm bs)]
        have eH : (bs.any fun z => PyData.eqv z u') = hasB bs u' := rfl
        rw [eH]
        refine ⟨_, rfl, ite2 (fun h1 => ?_) (fun h1 => ?_)⟩
        · refine ⟨_, rfl, v', u', rfl, dp_same s9 _ _ dp8, fu'.ok, fu'.pl, fun H10 s10 => ?_⟩
          rw [h1, Bool.and_true]
          refine ⟨_, .bool (barB u'), rfl, .bl _, mb _, rfl, _, rfl, ?_⟩
          generalize (PyData.bool (barB u')).shown = S
          rw [show (!decide (V.str S = V.str S)) = false by simp]
          exact ⟨_, _, rfl, d8.keep (s9.trans s10), s8.trans (SB.of (s9.trans s10))⟩
        · rw [Bool.eq_false_iff.mpr h1, Bool.and_false]
          refine ⟨_, .bool false, rfl, .bl _, mb _, rfl, _, rfl, ?_⟩
          generalize (PyData.bool false).shown = S
          rw [show (!decide (V.str S = V.str S)) = false by simp]
          exact ⟨_, _, rfl, d8.keep s9, s8.trans (SB.of s9)⟩
    · rintro σ H6 ⟨v4, v5, rfl, d6, s6⟩
      have hid6 := s6.hid.trans hid_in
      have FH6 : H6 m = some (.ins CF dx [("_bars", .ref p)]) := hid6 _ _ fa
      have fb6 : FB K CF H6 m (sortD bs) := ⟨p, ⟨dx, FH6⟩, dp_same hid6 _ _ dpb⟩
      have hl6 : H6 l = some (.lst xs) := s6 _ _ ld hl
      have hb6 := dpAll_same hid6 _ _ hb
      refine ⟨_, rfl, l, xs, rfl, .inl ⟨SqL.of hl6, fun a7 n7 => ?_⟩⟩
      have s7 : Same H6 (upd H6 a7 (.tup xs)) := same_upd n7
      refine ⟨_, rfl, _, rfl, m, dx, _, rfl, s7 _ _ FH6, m, sortD bs, rfl, fb6.same s7, (by omega), _, rfl, ?_⟩
      refine ⟨by show 5 ≤ sizeLine; decide, fun a8 n8 => ⟨a8, rfl, ⟨_, SqL.of upd_same⟩, fun D nD => ?_⟩⟩
      have s8 := s7.trans (same_upd (o := .lst [.non, .ref a7, .ref l, .int 0, .str (textOf (sortD bs).length)]) n8)
      have at7 := (same_upd (o := .lst [.non, .ref a7, .ref l, .int 0, .str (textOf (sortD bs).length)]) n8) _ _ (upd_same (H := H6) (a := a7) (o := HO.tup xs))
      refine lc_gen (walk_list (xs := [.non, .ref a7, .ref l, .int 0, .str (textOf (sortD bs).length)])) (fun _ => true) (fun _ => .bl false) (by show 5 < sizeLine; decide) nD (fun _ => rfl) (fun H' s' => sqL_same s' (SqL.of upd_same)) ?_ ?_
      · rintro i y H' H'' hi same ⟨rfl, hxi⟩
        refine ⟨rfl, fun R h => h _ (fun _ _ e => e), fun _ H3 s3 R h => ?_⟩
        have s9 := (s8.trans same).trans s3
        obtain ⟨e, dy⟩ : ∃ e, Dp K H3 y e := by
          match i, hxi with
          | 0, hxi => cases hxi; exact ⟨_, .non⟩
          | 1, hxi => cases hxi; exact ⟨.tuple bs, .tup (SqT.of (s3 _ _ (same _ _ at7))) (dpAll_same s9 _ _ hb6)⟩
          | 2, hxi => cases hxi; exact ⟨.list bs, .lst (SqL.of (s9 _ _ hl6)) (dpAll_same s9 _ _ hb6)⟩
          | 3, hxi => cases hxi; exact ⟨_, .int 0⟩
          | 4, hxi => cases hxi; exact ⟨_, .str _⟩
          | (n + 5), hxi => cases hxi
        obtain ⟨ty, mem, t1⟩ := dp_ty dy
        refine ⟨_, rfl, _, rfl, m, dx, _, ty, rfl, s9 _ _ FH6, .inl ⟨t1.ty, (C.fc.kits ty mem).2⟩, m, sortD bs, y, none, rfl, fb6.same s9, alls, .data dy, fun H4 s4 => ?_⟩
        exact h H4 s4
      · intro H9 s9 at9
        rw [filter_true] at at9
        have s9' := s8.trans s9
        refine ⟨by show 1 ≤ sizeLine; decide, fun a10 n10 => ⟨a10, 5, [.bl false], rfl, rfl, upd_same, by decide, by decide, by decide, fun a11 n11 => ?_⟩⟩
        have s11 := (s9'.trans (same_upd (o := .lst [.bl false]) n10)).trans (same_upd (o := .lst [.bl false, .bl false, .bl false, .bl false, .bl false]) n11)
        have atD := (same_upd (o := .lst [.bl false, .bl false, .bl false, .bl false, .bl false]) n11) _ _ ((same_upd (o := .lst [.bl false]) n10) _ _ at9)
        have five : ∀ {H : Hp}, DpAll K H [.bl false, .bl false, .bl false, .bl false, .bl false] [.bool false, .bool false, .bool false, .bool false, .bool false] := .cons (.bl _) (.cons (.bl _) (.cons (.bl _) (.cons (.bl _) (.cons (.bl _) .nil))))
        refine ⟨.list [.bool false, .bool false, .bool false, .bool false, .bool false], .list [.bool false, .bool false, .bool false, .bool false, .bool false], .lst (SqL.of atD) five, .lst (SqL.of upd_same) five, rfl, rfl, by decide +kernel, _, rfl, ?_⟩
        rw [if_pos rfl, show (!(PyData.list [.bool false, .bool false, .bool false, .bool false, .bool false]).eqv (.list [.bool false, .bool false, .bool false, .bool false, .bool false])) = false by decide +kernel]
        refine ite2 (fun h => by cases h) (fun _ => ?_)
        -- the same filter, from the bars the other way round
        have good2 : goodB bs.reverse = true := by rw [goodB_perm (List.reverse_perm bs)]; exact gb
        have arg : ∀ {H' : Hp} {r : Addr} {ys : List V} {cs : List PyData}, goodB cs = true → SqT K H' r ys → DpAll K H' ys cs → Arg K H' (.ref r) (some cs) := fun g t dd => by
          obtain ⟨g1, g2, _⟩ := goodB_iff.mp g
          exact .yes (.tup t dd) (fun d hd => bar_ok (g2 d hd)) (by omega)
        refine ⟨_, rfl, _, rfl, l, xs, rfl, SqL.of (s11 _ _ hl6), fun a12 n12 => ?_⟩
        have s12 := s11.trans (same_upd (o := .lst xs.reverse) n12)
        refine ⟨a12, xs.reverse, rfl, .inl ⟨SqL.of upd_same, fun a13 n13 => ?_⟩⟩
        have s13 := s12.trans (same_upd (o := .tup xs.reverse) n13)
        refine mk_argR (o := some bs.reverse) (arg good2 (SqT.of upd_same) (dpAll_rev (dpAll_same s13 _ _ hb6))) ?_ (fun z => ?_)
        · intro ds e g H14 b14 s14 nb14 fb14
          cases e
          have s14' := s13.trans s14
          obtain ⟨p14, ⟨dx14, f14⟩, dd14⟩ := fb14
          have e14 : sortD bs.reverse = sortD bs := (sortD_eq allb (List.reverse_perm bs).symm).symm
          rw [e14] at dd14
          refine ⟨rfl, m, dx, _, .none, rfl, s14' _ _ FH6, .inr ⟨b14, dx14, _, rfl, f14⟩, m, sortD bs, .ref b14, some (sortD bs), rfl, fb6.same s14', alls, .fil rfl ⟨p14, ⟨dx14, f14⟩, dd14⟩ alls, fun H15 s15 => ?_⟩
          have ee : PyData.eqv (.tuple (sortD bs)) (.tuple (sortD bs)) = true := eqv_bars alls
          refine ⟨true, congrArg V.bl ee, ite2 (fun _ => ?_) (fun h => absurd rfl h)⟩
          have s15' := s14'.trans s15
          refine ⟨_, rfl, _, rfl, l, xs, rfl, .inl ⟨SqL.of (s15' _ _ hl6), fun a16 n16 => ?_⟩⟩
          have s16 := s15'.trans (same_upd (o := .tup xs) n16)
          refine mk_argR (o := some bs) (arg gb (SqT.of upd_same) (dpAll_same s16 _ _ hb6)) ?_ (fun z => ?_)
          · intro ds e g H17 b17 s17 nb17 fb17
            cases e
            have s17' := s16.trans s17
            obtain ⟨p17, ⟨dx17, f17⟩, dd17⟩ := fb17
            refine ⟨rfl, m, dx, _, b17, dx17, _, rfl, rfl, s17' _ _ FH6, f17, m, sortD bs, .ref b17, some (sortD bs), rfl, fb6.same s17', alls, .fil rfl ⟨p17, ⟨dx17, f17⟩, dd17⟩ alls, fun H18 s18 => ⟨true, congrArg V.bl ee, ?_⟩⟩
            have s18' := s17'.trans s18
            exact ⟨_, rfl, q _ (d6.keep s18') (s6.trans (SB.of s18'))⟩
          · rw [show goodO (some bs) = goodB bs from rfl, gb] at z
            cases z
        · rw [show goodO (some bs.reverse) = goodB bs.reverse from rfl, good2] at z
          cases z
end
end LR
set_option Elab.async false
set_option linter.all false
set_option maxRecDepth 100000
set_option maxHeartbeats 4000000
namespace LR
open PySem PySem.Spec PyProof.Rows L2 CG SN KD
open PySem.W (kitOne Frag)
/-! ### try: body, except x1: suite, except x2: suite -/
def wTwo0 (K : Frag) (c1 : Value) (t1 : Addr → Value → Option Addr → TS) (c2 : Value) (t2 : Addr → Value → Option Addr → TS) (Wout : WX) (D : Ends) : WX := fun cls d σ H =>
  ∃ b, PySem.W.exmOne K cls c1 = some b ∧ (b = true → ∀ a, H a = none → t1 a cls d D σ H) ∧
    (b = false → ∃ b2, PySem.W.exmOne K cls c2 = some b2 ∧ (b2 = true → ∀ a, H a = none → t2 a cls d D σ H) ∧ (b2 = false → Wout cls d σ H))
section
variable {X : Cx} {x1 x2 n : Str} {c1 c2 : Value} {i : Nat} {body s1 s2 : List Stmt} {b1 b2 : Stmt} {n1 n2 p1 p2 pos : Pos} {tb : WX → TS} {t1 t2 : Addr → Value → Option Addr → TS} {Wout : WX}
/-- the name in a clause is found -/
theorem name_looks {X : Cx} {x : Str} {c : Value} {np : Pos} {a : Addr} {oe : Obj} {pins : List (Addr × Obj)} {σ : L2.St} {H : Hp} {s : Shared} (hc : Names X x c) (S : Inv (X.suite a ((a, oe) :: (X.pn ++ pins))) [] σ H s) {Q E : Value → Shared → Prop} (q : Q c s) :
    wpAny (model X.prog X.w) (X.A.mark (some (.ref a))) (eval (.Name x np) X.env) Q E s := by
  obtain ⟨hg, hdbg, hm | ⟨hm, hv, hnn⟩⟩ := hc
  · exact ld_glob (X := X.suite a ((a, oe) :: (X.pn ++ pins))) S hg hm q hdbg
  · exact ld_blt (X := X.suite a ((a, oe) :: (X.pn ++ pins))) S hg hm hv q hnn hdbg
theorem ps_try_two0 (hs : X.stack = X.env :: X.outer) (hf : X.env.frame = some X.env.locals) (hc1 : Names X x1 c1) (hc2 : Names X x2 c2) (tk : Takes X Wout)
    (hb : ∀ (W : WX) (pn : List (Addr × Obj)) (xe : Value → Shared → Prop), Takes (X.tr pn xe) W → PassesOwn (model X.prog X.w) X.A X.env xe → PSs (X.tr pn xe) body (tb W))
    (h1 : ∀ (a : Addr) (oe : Obj) (cls : Value) (d : Option Addr) (pn : List (Addr × Obj)), Zc cls d oe → (∃ vs, oe.data = .fields vs) → PSs (X.suite a ((a, oe) :: pn)) (b1 :: s1) (t1 a cls d))
    (h2 : ∀ (a : Addr) (oe : Obj) (cls : Value) (d : Option Addr) (pn : List (Addr × Obj)), Zc cls d oe → (∃ vs, oe.data = .fields vs) → PSs (X.suite a ((a, oe) :: pn)) (b2 :: s2) (t2 a cls d)) :
    PS X (.Try body [.ExceptHandler (some (.Name x1 n1)) none (b1 :: s1) p1, .ExceptHandler (some (.Name x2 n2)) none (b2 :: s2) p2] [] [] pos) (fun D σ H => tb (wTwo0 X.K c1 t1 c2 t2 Wout D) D σ H) := by
  constructor
  intro pins s σ H D I h
  have ok := I.ok
  have frames : X.A.frames = some (X.env :: X.outer) := ok.frames.trans (by rw [hs])
  refine wpAny_Try_except (wpAny_mono ((hb (wTwo0 X.K c1 t1 c2 t2 Wout D) (X.pn ++ pins) _ (fun u s' up => ?caught) PassesOwn.looking).run [] s σ H D (I.toTry _) h) (fun f z through => ?through) fun _ _ q => q)
  case through =>
    cases f with
    | ret u =>
      obtain ⟨v, τ, G, J, r, q⟩ := through
      exact ⟨v, τ, G, J.ofTry ok, r, q⟩
    | next =>
      obtain ⟨τ, G, J, q⟩ := through
      exact wpAny_execs_nil ⟨τ, G, J.ofTry ok, q⟩
    | brk =>
      obtain ⟨τ, G, J, q⟩ := through
      exact ⟨τ, G, J.ofTry ok, q⟩
    | cont =>
      obtain ⟨τ, G, J, q⟩ := through
      exact ⟨τ, G, J.ofTry ok, q⟩
  case caught =>
    obtain ⟨a, B, sI, ps, τ, G, cls, d, rfl, J0, kept, slots, sky, gone, os, bare, want⟩ := up
    have J : Inv X pins τ G sI := J0.ofTry ok
    refine Sky.land Zc.steady frames hf (hs ▸ sky) fun g fl gs => ?_
    have Jg : Inv X pins τ G { s' with heap := g } := J.landed kept fl.1 (slots.trans gs) os bare
    obtain ⟨oe, vs, at_, zc, dat⟩ := fl.there
    have apart : a ∉ frs (X.env :: X.outer) := fun m => by
      obtain ⟨_, o', e', nf⟩ := fl.2.2.1.mem m
      rw [at_] at e'
      cases e'
      exact nf _ dat
    have aL : a ≠ X.env.locals := fun z => apart (List.mem_filterMap.mpr ⟨X.env, List.mem_cons_self, by rw [hf, z]⟩)
    have aF : a ∉ X.fs := fun m => by
      obtain ⟨e, he, q⟩ := List.mem_filterMap.mp m
      exact apart (List.mem_filterMap.mpr ⟨e, List.mem_cons_of_mem _ he, q⟩)
    have Sg := Jg.suite at_ dat gone aL aF
    have type_ : PySem.W.Looks (model X.prog X.w) g (typeOf (.ref a)) cls := fun A Q E s k q => wpAny_typeOf_ref (k _ _ at_) (by rw [zc.1]; exact q)
    obtain ⟨b, e1, yes, no⟩ := want
    refine wpAny_handleBy_cons (codeAny_handlers_test (name_looks hc1 Sg ((PySem.W.exm_one (M := model X.prog X.w) Jg.kIn type_ e1).here ?_))) (by intro q; cases q)
    cases b with
    | true =>
      refine codeAny_handlers_suite (HandSPX.lands_againZ fl fun g4 fl4 gs4 => ?_)
      obtain ⟨o4, v4, at4, zc4, dat4⟩ := fl4.there
      have J4 : Inv X pins τ G { s' with heap := g4 } := J.landed kept fl4.1 ((slots.trans gs).trans gs4) os bare
      have S4 := J4.suite at4 dat4 gone aL aF
      refine wpAny_mono ((h1 a o4 cls d (X.pn ++ pins) zc4 ⟨_, dat4⟩).run [] _ _ G _ S4 (yes rfl a gone)) (fun f z hz => ?_) (fun _ _ q => False.elim q)
      cases f with
      | ret u =>
        obtain ⟨v, τ', G', S, r, q⟩ := hz
        exact ⟨v, τ', G', S.unsuite ok, r, q⟩
      | next =>
        obtain ⟨τ', G', S, q⟩ := hz
        exact ⟨τ', G', S.unsuite ok, q⟩
      | brk =>
        obtain ⟨τ', G', S, q⟩ := hz
        exact ⟨τ', G', S.unsuite ok, q⟩
      | cont =>
        obtain ⟨τ', G', S, q⟩ := hz
        exact ⟨τ', G', S.unsuite ok, q⟩
    | false =>
      obtain ⟨b', e2, yes2, no2⟩ := no rfl
      show wpAny _ X.A (handleBy (.ref a) X.env [.ExceptHandler (some (.Name x2 n2)) none (b2 :: s2) p2]) _ _ _
      refine wpAny_handleBy_cons (codeAny_handlers_test (name_looks hc2 Sg ((PySem.W.exm_one (M := model X.prog X.w) Jg.kIn type_ e2).here ?_))) (by intro q; cases q)
      cases b' with
      | true =>
        refine codeAny_handlers_suite (HandSPX.lands_againZ fl fun g4 fl4 gs4 => ?_)
        obtain ⟨o4, v4, at4, zc4, dat4⟩ := fl4.there
        have J4 : Inv X pins τ G { s' with heap := g4 } := J.landed kept fl4.1 ((slots.trans gs).trans gs4) os bare
        have S4 := J4.suite at4 dat4 gone aL aF
        refine wpAny_mono ((h2 a o4 cls d (X.pn ++ pins) zc4 ⟨_, dat4⟩).run [] _ _ G _ S4 (yes2 rfl a gone)) (fun f z hz => ?_) (fun _ _ q => False.elim q)
        cases f with
        | ret u =>
          obtain ⟨v, τ', G', S, r, q⟩ := hz
          exact ⟨v, τ', G', S.unsuite ok, r, q⟩
        | next =>
          obtain ⟨τ', G', S, q⟩ := hz
          exact ⟨τ', G', S.unsuite ok, q⟩
        | brk =>
          obtain ⟨τ', G', S, q⟩ := hz
          exact ⟨τ', G', S.unsuite ok, q⟩
        | cont =>
          obtain ⟨τ', G', S, q⟩ := hz
          exact ⟨τ', G', S.unsuite ok, q⟩
      | false =>
        show wpAny _ X.A (handleBy (.ref a) X.env []) _ _ _
        refine wpAny_handleBy_nil ?_
        obtain ⟨_, _, _, o, vs', T, oT, ts, at5, zc5, dat5, v1, _⟩ := id fl
        unfold PySem.passOn
        refine wpAny_bind (wpAny_field at5 dat5 v1 ?_)
        rw [if_neg (show ¬ ((Value.ref T == Value.none) = true) from by simp)]
        have on : wpAny (model X.prog X.w) X.A (setFlight (.ref a) X.env.frame) (fun _ s4 => wpAny (model X.prog X.w) X.A (throw (.ref a) : Sem Flow) (SP X pins D) X.xe s4) X.xe { s' with heap := g } := by
          rw [hf]
          exact HandSPX.setFlight_upZ fl fun g5 held gs5 => wpAny_throw (tk _ _ ⟨a, B, sI, pins, τ, G, cls, d, rfl, J, kept, (slots.trans gs).trans gs5, .inr (.inr (by rw [hs]; exact held)), gone, os, bare, no2 rfl⟩)
        first
          | exact wpAny_bind (wpAny_pure (wpAny_bind on))
          | exact wpAny_bind on
end
end LR
set_option Elab.async false
set_option linter.all false
set_option maxRecDepth 100000
set_option maxHeartbeats 4000000
namespace LR
open PySem PySem.Spec PyProof.Rows L2 CG SN KD OW LamX
open PySem.W (kitOne Frag exmOne findIn keepIn codeIn excIn subIn typeIn)
/-! ### the dice and tables aside -/
def EB (d : Addr) (H H' : Hp) : Prop := ∀ b o, b ≠ d → (∀ ps, o ≠ .tbl ps) → H b = some o → H' b = some o
theorem EB.refl {d : Addr} {H : Hp} : EB d H H := fun _ _ _ _ e => e
theorem EB.trans {d : Addr} {H H1 H2 : Hp} (a : EB d H H1) (b : EB d H1 H2) : EB d H H2 := fun c o n t e => b c o n t (a c o n t e)
theorem EB.same {d : Addr} {H H' : Hp} (s : Same H H') : EB d H H' := fun b o _ _ e => s b o e
theorem EB.sb {d : Addr} {H H' : Hp} (s : SB d H H') : EB d H H' := fun b o n _ e => s b o n e
theorem EB.ext {d : Addr} {H H' : Hp} (s : ExtN H H') : EB d H H' := fun b o _ t e => s b o e t
theorem tabs_sb {T : List (Addr × Str)} {d : Addr} {H H' : Hp} (hd : DiceAt H d) (t : Tabs T H) (s : SB d H H') : Tabs T H' := fun p hp => by
  obtain ⟨a, b, c, e⟩ := hd
  obtain ⟨ps, h1, h2, h3⟩ := t p hp
  have n1 : p.1 ≠ d := fun z => by rw [z, e] at h1; cases h1
  refine ⟨ps, s _ _ n1 h1, h2, fun pos cv hc => ?_⟩
  obtain ⟨x, e1, e2⟩ := h3 pos cv hc
  refine ⟨x, e1, s _ _ (fun z => ?_) e2⟩
  rw [z, e] at e2
  unfold CodeO at e2
  cases e2
theorem dice_ext {d : Addr} {H H' : Hp} (h : DiceAt H d) (s : ExtN H H') : DiceAt H' d := by
  obtain ⟨a, b, c, e⟩ := h
  exact ⟨a, b, c, s _ _ e fun ps z => by cases z⟩
theorem sqT_eb {K : Frag} {d : Addr} {H H' : Hp} {a : Addr} {xs : List V} (hd : DiceAt H d) (s : EB d H H') (h : SqT K H a xs) : SqT K H' a xs := by
  obtain ⟨x, y, z, e⟩ := hd
  rcases h with (h | ⟨o, h⟩) | h
  · exact .inl (.inl (s _ _ (fun q => by rw [q, e] at h; cases h) (fun ps q => by cases q) h))
  · exact .inl (.inr ⟨o, s _ _ (fun q => by rw [q, e] at h; cases h) (fun ps q => by cases q) h⟩)
  · exact .inr h
theorem sqT_ext {K : Frag} {H H' : Hp} {a : Addr} {xs : List V} (s : ExtN H H') (h : SqT K H a xs) : SqT K H' a xs := by
  rcases h with (h | ⟨o, h⟩) | h
  · exact .inl (.inl (s _ _ h fun ps q => by cases q))
  · exact .inl (.inr ⟨o, s _ _ h fun ps q => by cases q⟩)
  · exact .inr h
/-! ### a def whose code object is known -/
structure FunC (K : Frag) (x qual : Str) (st : Stmt) (f : Addr) (fd : FuncData) (c : Addr) : Prop where
  ex : ∃ (oc : Value) (od : Option Addr) (kV doc pm : Value) (an : Option Addr) (ct : Value) (osl : Array (Option Value)), fd = PySem.W.fnOf x qual (defArgs st) (defBody st) (defScope st) .none kV doc pm an (.ref c) ct ∧
    K.lookup f = some ⟨oc, od, .func fd, osl⟩ ∧ codeIn K (.ref c) qual = true
  kp : keepIn K (.ref f) = true
section
variable {P : Program} {w : World} {K : PySem.W.Frag} {mg : Str → Option Value} {base : Heap} {CX : CXT} {k : Nat} {f c : Addr} {fd : FuncData} {ps N : List Str} {sp : Sp}
theorem fnC_of {x qual : Str} {st : Stmt} (F : FunC K x qual st f fd c) (S : FnScope N ps (defScope st)) (len : ∀ vs H Q E, sp vs H Q E → vs.length = ps.length)
    (body : ∀ (A : Around) (outer : List Env) (s : Shared) (H : Hp) (vs : List V) (Q : VK) (E : XK), Room k (A.deeper (envOfC qual (defScope st) s.heap.objs.size f (.ref c))) → A.guards = some [] → sp vs H Q E →
      ∃ t, PSs (cxOf CX P w K mg base N qual (defScope st) f (.ref c) A outer s H E) (defBody st) t ∧ t { nx := fun _ H' => Q .non H', rt := Q } (start N vs) H) :
    FnG P w K mg base CX (k + 1) f fd ps sp := by
  obtain ⟨oc, od, kV, doc, pm, an, ct, osl, rfl, lk, hcd⟩ := F.ex
  constructor
  · exact len
  intro A outer s H args us vs Q E room gd env bnd rel want
  have old := fun b o e => (env.bs b o e).1
  have kin : K.In s.heap := env.mod.kin.keeps old
  have free : s.heap.NoLimit := env.mod.nolimit.keeps old
  refine codeAny_call_function room.depth (kin _ _ lk) rfl S.co S.gen rfl (PySem.W.codeRec_of kin hcd) (bnd _ _ _ _ ?_)
  refine wpAny_newFunctionEnv_cells S.kind ?_ ?_
  · rintro ⟨n, v⟩ hm
    cases S.par n (List.of_mem_zip hm).1 with
    | inl z => exact .inl z
    | inr z => exact .inr ⟨z, PySem.W.cellsFrom_some _ _ _ (.inl z)⟩
  · intro en hen s1 C
    subst hen
    refine ⟨free.keeps C.toInCall.keep, codeAny_func ?_⟩
    obtain ⟨t, walk, start0⟩ := body A outer s H vs Q E (room.deeper _) gd want
    have I0 := inv_start (CX := CX) (E := E) S room.hd env (len _ _ _ _ want) rel C
    refine wpAny_mono (walk.run [] s1 _ H _ I0 start0) ?_ (fun _ _ z => z)
    intro fl s' z
    cases fl with
    | next =>
      obtain ⟨σ2, H2, J, q⟩ := z
      exact ⟨.non, H2, J.os, J.bare, J.base, J.hok, rfl, q⟩
    | ret u =>
      obtain ⟨v, σ2, H2, J, rv, q⟩ := z
      exact ⟨v, H2, J.os, J.bare, J.base, J.hok, rv, q⟩
    | brk => exact z.elim fun _ z => z.elim fun _ z => z.2.elim
    | cont => exact z.elim fun _ z => z.elim fun _ z => z.2.elim
end
theorem tabs_lst {T : List (Addr × Str)} {d : Addr} {xs : List V} {H H' : Hp} (e : H d = some (.lst xs)) (t : Tabs T H) (s : SB d H H') : Tabs T H' := fun p hp => by
  obtain ⟨ps, h1, h2, h3⟩ := t p hp
  have n1 : p.1 ≠ d := fun z => by rw [z, e] at h1; cases h1
  refine ⟨ps, s _ _ n1 h1, h2, fun pos cv hc => ?_⟩
  obtain ⟨x, e1, e2⟩ := h3 pos cv hc
  refine ⟨x, e1, s _ _ (fun z => ?_) e2⟩
  rw [z, e] at e2
  unfold CodeO at e2
  cases e2
structure Tb (base : Heap) (mg : Str → Option Value) (T : List (Addr × Str)) (c p : Addr) (q : Str) : Prop where
  tb : TabB base mg c p
  m : (p, q) ∈ T
  u : ∀ x ∈ T, x.1 = p → x.2 = q
/-! ### the word of a call -/
def rReprD (K : Frag) : List V → Hp → VK → Prop := fun xs H Q => ∃ x d, xs = [x] ∧ Dp K H x d ∧ MayShow d ∧ Q (.str d.shown) H
def TWord (K : Frag) (CF cI cO : Addr) : (XK → Hp → VK → Prop) → Hp → VK → Prop := fun tl H Q =>
  tl (fun cls d H' => (cls = .ref cO ∧ Q (.str "operation") H') ∨ (cls = .ref cI ∧ Q (.str "filter") H')) H fun v H' => ∃ a dx fs, v = .ref a ∧ H' a = some (.ins CF dx fs) ∧ spBars K CF [.ref a] H' (fun v2 H2 => rReprD K [v2] H2 Q) E0
abbrev NW : List Str := ["_law_call"]
theorem scWL : FnScope NW ["_law_call"] (defScope sWordL) := ⟨rfl, rfl, rfl, by decide +kernel, rfl, by decide +kernel, by decide +kernel⟩
theorem call_reprK {X : Cx} {K : Frag} (hk : X.K = K) (hg : X.A.guards = some []) (hu : X.A.units + 64 < cLine) : CallR X (.builtin "repr") (rReprD K) := by subst hk; exact call_reprD hg hu
theorem word_gives {X : Cx} {g CF cI cO : Addr} {cdg : Value} {q : Str} (C : Cm X.prog X.w X.K X.mg X.base CF cI cO) (M : Mx X.K X.mg cI cO) (hg : X.A.guards = some []) (hr : Room 4 X.A) : GivesTo X NW "_law_word" (defScope sWordL) g cdg (defBody sWordL) "_law_call" q (TWord X.K CF cI cO) := by
  obtain ⟨pp, gp, dp, PR, GP, bP⟩ := C.pr
  have T := C.sy
  intro f c' s H Q tl act hc h
  have hr3 : Room 3 (X.A.deeper (envOfC "_law_word" (defScope sWordL) s.heap.objs.size g cdg)) := hr.deeper _
  have hg3 : (X.A.deeper (envOfC "_law_word" (defScope sWordL) s.heap.objs.size g cdg)).guards = some [] := hg
  have hr2 : Room 2 (X.A.deeper (envOfC "_law_word" (defScope sWordL) s.heap.objs.size g cdg)) := hr3.mono (by decide)
  refine ⟨_, pss_one (ps_try_two0 (X := (cxOf C8.CX0 X.prog X.w X.K X.mg X.base NW "_law_word" (defScope sWordL) g cdg X.A X.stack s H C8.E0).nox) (c1 := .ref cO) (c2 := .ref cI)
      (tb := fun W D σ H => ∃ Ech : XK, (∀ cls d σ' H', Ech cls d H' → W cls d σ' H') ∧ tRet (tCB (rReprD X.K) (tCons (tProp CF (spBars X.K CF) [] E0 (fun σZ HZ Q => σZ[0]? = some (some (.ref f)) ∧ HZ c' = some (CodeO c' q) ∧ tl Ech HZ Q)) tNil)) D σ H)
      rfl rfl ⟨rfl, by decide, .inl M.gO⟩ ⟨rfl, by decide, .inl M.gI⟩ L2.takes0 (fun W pn xe tk _ => pss_ex fun Ech hW => pss_one (ps_ret (pe_callB (call_reprK (X := (cxOf C8.CX0 X.prog X.w X.K X.mg X.base NW "_law_word" (defScope sWordL) g cdg X.A X.stack s H C8.E0).nox.tr pn xe) rfl hg3 hr3.units) (by rfl) T.repr PyProof.Rows.boot_repr (pa_cons (pe_prop (act W pn xe Ech _ _ tk hW) C.fc.cl PR GP hr2 bP .nil pass0 rfl) pa_nil))))
      (fun a oe cls d pn _ _ => pss_one (ps_ret pe_str)) (fun a oe cls d pn _ _ => pss_one (ps_ret pe_str))), ?_⟩
  · refine ⟨_, fun cls d σ' H' hh => ?_, rfl, hc, h⟩
    rcases hh with ⟨rfl, q1⟩ | ⟨rfl, q1⟩
    · exact ⟨true, M.oo, fun _ a _ => q1, fun z => Bool.noConfusion z⟩
    · exact ⟨false, M.io, fun z => Bool.noConfusion z, fun _ => ⟨true, M.ii, fun _ a _ => q1, fun z => Bool.noConfusion z⟩⟩
end LR
set_option Elab.async false
set_option linter.all false
set_option maxRecDepth 100000
set_option maxHeartbeats 4000000
namespace LR
open PySem PySem.Spec PyProof.Rows L2 CG SN KD OW LamX
open PySem.W (kitOne Frag exmOne findIn keepIn codeIn excIn subIn typeIn)
/-! ### dice and tables hidden -/
def noTbl : HO → Prop | .tbl _ => False | _ => True
def Hq (d : Addr) (H : Hp) : Hp := fun b => if b = d then none else match H b with | some (.tbl _) => none | x => x
theorem hq_some {d b : Addr} {H : Hp} {o : HO} (h : Hq d H b = some o) : b ≠ d ∧ H b = some o ∧ ∀ ps, o ≠ .tbl ps := by
  unfold Hq at h
  split at h
  · cases h
  · rename_i n
    refine ⟨n, ?_⟩
    split at h
    · cases h
    · rename_i nt
      refine ⟨h, fun ps e => ?_⟩
      subst e
      exact nt ps h
theorem hq_of {d b : Addr} {H : Hp} {o : HO} (n : b ≠ d) (h : H b = some o) (t : ∀ ps, o ≠ .tbl ps) : Hq d H b = some o := by
  unfold Hq
  rw [if_neg n, h]
  cases o with
  | tbl ps => exact absurd rfl (t ps)
  | _ => rfl
theorem hq_in {d : Addr} {H : Hp} : Same (Hq d H) H := fun b o e => (hq_some e).2.1
theorem EB.hq {d : Addr} {H H' : Hp} (s : EB d H H') : Same (Hq d H) (Hq d H') := fun b o e => by
  obtain ⟨n, e, t⟩ := hq_some e
  exact hq_of n (s b o n t e) t
theorem hid_q {d : Addr} {H : Hp} : SameQ (Hid d H) (Hq d H) := fun b o q e => hq_of (hid_some e).1 (hid_some e).2 fun ps z => by subst z; exact q
theorem fb_hq {K : Frag} {CF d a : Addr} {bs : List PyData} {H : Hp} (h : FB K CF (Hid d H) a bs) : FB K CF (Hq d H) a bs := by
  obtain ⟨p, ⟨dx, e⟩, dd⟩ := h
  exact ⟨p, ⟨dx, hq_of (hid_some e).1 (hid_some e).2 fun ps z => by cases z⟩, dp_q hid_q _ _ dd⟩
theorem hq_hid {d : Addr} {H : Hp} : Same (Hq d H) (Hid d H) := fun b o e => hid_of (hq_some e).1 (hq_some e).2.1
/-! ### operators and the word -/
def bnames : List String := ["NoneType", "bool", "int", "str", "list", "tuple"]
structure Op1 (P : Program) (w : World) (K : Frag) (mg : Str → Option Value) (base : Heap) (CF cI cO : Addr) (nm : String) (r : List PyData → List PyData → List PyData) : Prop where
  ex : ∃ f fd, Dun K CF (PySem.dunder nm) f fd ["self", "other"] ∧ FnOk P w K mg base (L2.CX P w) 8 f fd ["self", "other"] (spOp K CF cI cO r)
  dr : findIn K (.ref CF) (dunderR nm) = some none
  rt : ∀ T ∈ bnames, Rt K CF nm T
structure Ops2 (P : Program) (w : World) (K : Frag) (mg : Str → Option Value) (base : Heap) (CF cI cO : Addr) : Prop where
  or_ : Op1 P w K mg base CF cI cO "or" rOrB
  and_ : Op1 P w K mg base CF cI cO "and" rAndB
  sub_ : Op1 P w K mg base CF cI cO "sub" rSubB
  part : ∃ f fd, Meth K CF "is_part_of" f ∧ FnOk P w K mg base CX0 3 f fd ["self", "value"] (spPart K CF) ∧ Binds K fd ["self", "value"] []
  word : ∃ (g : Addr) (oc : Value) (od : Option Addr) (kV doc pm : Value) (an : Option Addr) (cdv ct : Value) (osl : Array (Option Value)), mg "_law_word" = some (.ref g) ∧ keepIn K (.ref g) = true ∧
    K.lookup g = some ⟨oc, od, .func (PySem.W.fnOf "_law_word" "_law_word" (defArgs sWordL) (defBody sWordL) (defScope sWordL) .none kV doc pm an cdv ct), osl⟩ ∧ codeIn K cdv "_law_word" = true ∧
    L2.Binds K (PySem.W.fnOf "_law_word" "_law_word" (defArgs sWordL) (defBody sWordL) (defScope sWordL) .none kV doc pm an cdv ct) ["_law_call"] []
  mx : Mx K mg cI cO
theorem dp_tyB {K : Frag} {H : Hp} {d : PyData} {x : V} (h : Dp K H x d) : ∃ T, T ∈ bnames ∧ TyX K H x (.type T) := by
  obtain ⟨t, m, ty⟩ := dp_ty h
  simp only [List.mem_cons, List.not_mem_nil, or_false] at m
  rcases m with rfl | rfl | rfl | rfl | rfl | rfl
  · exact ⟨_, by decide, ty.ty⟩
  · exact ⟨_, by decide, ty.ty⟩
  · exact ⟨_, by decide, ty.ty⟩
  · exact ⟨_, by decide, ty.ty⟩
  · exact ⟨_, by decide, ty.ty⟩
  · exact ⟨_, by decide, ty.ty⟩
abbrev NPr : List Str := ["_law_dice_here", "_law_bars", "_law_others", "_law_one", "_law_two", "_law_either", "_law_both", "_law_alone", "_law_told", "_law_odd", "_law_bar_here"]
theorem scPr : FnScope NPr ["_law_dice_here", "_law_bars", "_law_others"] (defScope sPair) := ⟨rfl, rfl, rfl, by decide +kernel, rfl, by decide +kernel, by decide +kernel⟩
def qPr : Str := "_law_pair_right" ++ ".<locals>." ++ "<lambda>"
abbrev XP (P : Program) (w : World) (K : Frag) (mg : Str → Option Value) (base : Heap) (f c : Addr) (A : Around) (outer : List Env) (s : Shared) (H : Hp) (E : XK) : Cx :=
  (cxOf CX0 P w K mg base NPr "_law_pair_right" (defScope sPair) f (.ref c) A outer s H E).nox
/-- how it stands on the way -/
structure Way (K : Frag) (CF : Addr) (T : List (Addr × Str)) (d l ol one two : Addr) (xs ys : List V) (bs cs : List PyData) (Hs H : Hp) : Prop where
  hd : DiceAt H d
  ht : Tabs T H
  eb : EB d Hs H
  l : Hq d H l = some (.lst xs)
  ol : Hq d H ol = some (.lst ys)
  db : DpAll K (Hq d H) xs bs
  dc : DpAll K (Hq d H) ys cs
  f1 : FB K CF (Hq d H) one (sortD bs)
  f2 : FB K CF (Hq d H) two (sortD cs)
section
variable {K : Frag} {CF : Addr} {T : List (Addr × Str)} {d l ol one two : Addr} {xs ys : List V} {bs cs : List PyData} {Hs H H' : Hp}
theorem Way.go (W : Way K CF T d l ol one two xs ys bs cs Hs H) (hd : DiceAt H' d) (ht : Tabs T H') (e : EB d H H') : Way K CF T d l ol one two xs ys bs cs Hs H' :=
  ⟨hd, ht, W.eb.trans e, e.hq _ _ W.l, e.hq _ _ W.ol, dpAll_same e.hq _ _ W.db, dpAll_same e.hq _ _ W.dc, W.f1.same e.hq, W.f2.same e.hq⟩
theorem Way.same (W : Way K CF T d l ol one two xs ys bs cs Hs H) (s : Same H H') : Way K CF T d l ol one two xs ys bs cs Hs H' := W.go (W.hd.keep s) (W.ht.ext s) (EB.same s)
theorem Way.ext (W : Way K CF T d l ol one two xs ys bs cs Hs H) (s : ExtN H H') (ht : Tabs T H') : Way K CF T d l ol one two xs ys bs cs Hs H' := W.go (dice_ext W.hd s) ht (EB.ext s)
theorem Way.sb (W : Way K CF T d l ol one two xs ys bs cs Hs H) (s : SB d H H') (hd : DiceAt H' d) : Way K CF T d l ol one two xs ys bs cs Hs H' := W.go hd (tabs_sb W.hd W.ht s) (EB.sb s)
end
end LR
set_option Elab.async false
set_option linter.all false
set_option maxRecDepth 100000
set_option maxHeartbeats 4000000
namespace LR
open PySem PySem.Spec PyProof.Rows L2 CG SN KD OW LamX
open PySem.W (kitOne Frag exmOne findIn keepIn codeIn excIn subIn typeIn)
section
variable {P : Program} {w : World} {K : Frag} {mg : Str → Option Value} {base : Heap} {CF cI cO : Addr} {T : List (Addr × Str)} {f c pT : Addr} {A : Around} {outer : List Env} {s : Shared} {H0 : Hp} {E : XK}
theorem op_binTk {X : Cx} {CX : CXT} {k : Nat} {f : Addr} {fd : FuncData} {ps : List Str} {sp : Sp} {E : XK} {op : Operator} (hk : X.K = K) (F : FnOk X.prog X.w X.K X.mg X.base CX k f fd ps sp) (hr : Room k X.A) (hc : PySem.W.selfFirst X.K CF = true) (D : Dun X.K CF (PySem.dunder op.info.2) f fd ps) (dr : findIn X.K (.ref CF) (dunderR op.info.2) = some none) (hx : Passes CX X E) :
    OpR X (binaryOp op) (rBinT K CF op.info.2 sp E) := by subst hk; exact op_binT F hr hc D dr hx
theorem EB.upd_new {d p : Addr} {H H' : Hp} {o : HO} (n : H p = none) (s : EB d H H') : EB d H (upd H' p o) := fun b u nb nt e => by
  rw [upd_ne (ne_of_none e n)]
  exact s b u nb nt e
theorem odd_word {nm : String} {r : List PyData → List PyData → List PyData} {d l ol one two : Addr} {xs ys : List V} {bs cs : List PyData} {y : V} {e : PyData} {Hs H : Hp} {σ : L2.St} {Q : VK} (rt : ∀ T ∈ bnames, Rt K CF nm T) (gb : goodB bs = true) (W : Way K CF T d l ol one two xs ys bs cs Hs H) (dy : Dp K (Hq d H) y e)
    (h3 : σ[3]? = some (some (.ref one))) (h9 : σ[9]? = some (some y)) (q : ∀ H1, ExtN H H1 → Way K CF T d l ol one two xs ys bs cs Hs H1 → Dp K (Hq d H1) y e → Q (.str "operation") H1) :
    tLam T (TWord K CF cI cO) (fun E => tOp (rBinT K CF nm (spOp K CF cI cO r) E) (tVar 3) (tVar 9)) σ H Q := by
  refine ⟨W.ht, fun H1 e1 t1 => ?_⟩
  have W1 := W.ext e1 t1
  have dy1 := dp_same (EB.ext (d := d) e1).hq _ _ dy
  obtain ⟨p, ⟨dx, fa⟩, dd⟩ := W1.f1
  obtain ⟨Ty, mT, ty⟩ := dp_tyB (dp_same hq_in _ _ dy1)
  refine ⟨_, h3, _, h9, one, dx, _, Ty, rfl, hq_in _ _ fa, ty, rt Ty mT, one, sortD bs, y, none, rfl, ⟨p, ⟨dx, hq_in _ _ fa⟩, dp_same hq_in _ _ dd⟩, by rw [goodB_sort]; exact gb, .data (dp_same hq_in _ _ dy1), (fun cs e => by cases e), fun _ H2 s2 => .inl ⟨rfl, ?_⟩, (fun cs e => by cases e), (fun cs e => by cases e)⟩
  exact q H2 (e1.trans (ExtN.of s2)) (W1.same s2) (dp_same (EB.same (d := d) s2).hq _ _ dy1)
/-- the three words for an odd operand -/
theorem pair_C (C : Cm P w K mg base CF cI cO) (O : Ops P w K mg base CF) (O2 : Ops2 P w K mg base CF cI cO) (B : Tb base mg T c pT qPr) (hg : A.guards = some []) (hr : Room 10 (A.deeper (envOfC "_law_pair_right" (defScope sPair) s.heap.objs.size f (.ref c)))) :
    ∃ t, PSs (XP P w K mg base f c A outer s H0 E) ((defBody sPair).drop 8) t ∧
      ∀ (D : Ends) (d l ol one two : Addr) (xs ys : List V) (bs cs : List PyData) (y : V) (e : PyData) (x5 x6 x7 x8 x10 : Option V) (Hs H : Hp), goodB bs = true → goodB cs = true → Way K CF T d l ol one two xs ys bs cs Hs H → Dp K (Hq d H) y e →
        (∀ H', DiceAt H' d → Tabs T H' → EB d Hs H' → D.rt (.bl true) H') → t D [some (.ref d), some (.ref l), some (.ref ol), some (.ref one), some (.ref two), x5, x6, x7, x8, some y, x10] H := by
  obtain ⟨pp, gp, dp, PR, GP, bP⟩ := C.pr
  have Sy := C.sy
  obtain ⟨fe, de, De, Ge⟩ := O.eq
  obtain ⟨⟨fo, dfo, Do, Go⟩, dro, rto⟩ := O2.or_
  obtain ⟨⟨fa, dfa, Da, Ga⟩, dra, rta⟩ := O2.and_
  obtain ⟨⟨fs, dfs, Ds, Gs⟩, drs, rts⟩ := O2.sub_
  obtain ⟨fp, dfp, Mp, Gp, bp⟩ := O2.part
  obtain ⟨g, oc, od, kV, doc, pm, an, cdv, ct, osl, gE, kE, lkE, cdE, bE⟩ := O2.word
  have hr1 : Room 1 _ := hr.mono (by decide)
  have hr2 : Room 2 _ := hr.mono (by decide)
  have hr3 : Room 3 _ := hr.mono (by decide)
  have hr4 : Room 4 _ := hr.mono (by decide)
  have hu := hr.units
  refine ⟨_, pss_cons (ps_set (i := 8) scPr.nd rfl (Or.inl rfl) (pe_lst (pa_cons (pe_lamcall (T := T) (TT := TWord K CF cI cO) (k := 8) (a := "_law_call") (Ng := NW) (t := fun E => tOp (rBinT K CF "or" (spOp K CF cI cO rOrB) E) (tVar 3) (tVar 9)) rfl gE kE lkE cdE bE scWL rfl (Or.inl rfl)
        (word_gives C O2.mx hg hr4) B.tb rfl B.m B.u hr (lamS_by (show lamSB (defScope sPair) _ = true by decide +kernel)) rfl (fun _ _ _ _ _ => rfl)
        (fun A outer s H E f c' hrl => pe_op (op_binTk (K := K) (E := E) (op := .BitOr) rfl Go hrl C.fc.self Do dro (passes_call (takes_of rfl rfl rfl rfl) fun _ _ _ _ h => h)) (pv 3) (pv 9))) pa_nil)))
    (pss_cons (ps_expr (pe_bm PySem.F.plainAttrs_list PySem.F.slot_list_append PySem.F.type_list_append mt_append (pv 8) (pa_cons (pe_lamcall (T := T) (TT := TWord K CF cI cO) (k := 8) (a := "_law_call") (Ng := NW) (t := fun E => tOp (rBinT K CF "and" (spOp K CF cI cO rAndB) E) (tVar 3) (tVar 9)) rfl gE kE lkE cdE bE scWL rfl (Or.inl rfl)
        (word_gives C O2.mx hg hr4) B.tb rfl B.m B.u hr (lamS_by (show lamSB (defScope sPair) _ = true by decide +kernel)) rfl (fun _ _ _ _ _ => rfl)
        (fun A outer s H E f c' hrl => pe_op (op_binTk (K := K) (E := E) (op := .BitAnd) rfl Ga hrl C.fc.self Da dra (passes_call (takes_of rfl rfl rfl rfl) fun _ _ _ _ h => h)) (pv 3) (pv 9))) pa_nil)))
    (pss_cons (ps_expr (pe_bm PySem.F.plainAttrs_list PySem.F.slot_list_append PySem.F.type_list_append mt_append (pv 8) (pa_cons (pe_lamcall (T := T) (TT := TWord K CF cI cO) (k := 8) (a := "_law_call") (Ng := NW) (t := fun E => tOp (rBinT K CF "sub" (spOp K CF cI cO rSubB) E) (tVar 3) (tVar 9)) rfl gE kE lkE cdE bE scWL rfl (Or.inl rfl)
        (word_gives C O2.mx hg hr4) B.tb rfl B.m B.u hr (lamS_by (show lamSB (defScope sPair) _ = true by decide +kernel)) rfl (fun _ _ _ _ _ => rfl)
        (fun A outer s H E f c' hrl => pe_op (op_binTk (K := K) (E := E) (op := .Sub) rfl Gs hrl C.fc.self Ds drs (passes_call (takes_of rfl rfl rfl rfl) fun _ _ _ _ h => h)) (pv 3) (pv 9))) pa_nil)))
    (pss_cons (ps_if (PW.pt (pw_or (pt_cmpR (op_neK (K := K) rfl hr.units) (pv 8) (pe_op op_rep (pe_lst (pa_cons pe_str pa_nil)) pe_int) (nomark _))
        (pw_or (pt_val (pe_meth (pv 3) C.fc.cl Mp Gp hr3 bp .nil pass0 (pa_cons (pv 9) pa_nil)))
        (pw_or1 (pt_cmpR op_ne (pe_cmpR (op_eqO Ge hr1 De pass0) (pv 3) (pv 4) (nomark _)) (pe_cmpR (op_eqP hr.units) (pe_callB (cr_sortD hr.units) (by rfl) Sy.sorted (by decide +kernel) (pa_cons (pv 1) pa_nil)) (pe_callB (cr_sortD hr.units) (by rfl) Sy.sorted (by decide +kernel) (pa_cons (pv 2) pa_nil)) (nomark _)) (nomark _))))))
        (pss_one (ps_ret pe_bl)) pss_nil)
    (pss_one (ps_ret (pe_and (pe_cmpR op_eq (pe_callB (call_reprD hg hu) (by rfl) Sy.repr PyProof.Rows.boot_repr (pa_cons (pe_prop (pv 3) C.fc.cl PR GP hr2 bP .nil pass0 rfl) pa_nil))
        (pe_callB (call_reprD hg hu) (by rfl) Sy.repr PyProof.Rows.boot_repr (pa_cons (pe_callTy call_tuple_of (by rfl) Sy.tuple PyProof.Rows.boot_tuple (pa_cons (pe_callB (cr_sortD hr.units) (by rfl) Sy.sorted (by decide +kernel) (pa_cons (pv 1) pa_nil)) pa_nil)) pa_nil)) (nomark _))
      (pe_one (pe_cmpR op_eq (pe_callB (call_reprD hg hu) (by rfl) Sy.repr PyProof.Rows.boot_repr (pa_cons (pe_prop (pv 4) C.fc.cl PR GP hr2 bP .nil pass0 rfl) pa_nil))
        (pe_callB (call_reprD hg hu) (by rfl) Sy.repr PyProof.Rows.boot_repr (pa_cons (pe_callTy call_tuple_of (by rfl) Sy.tuple PyProof.Rows.boot_tuple (pa_cons (pe_callB (cr_sortD hr.units) (by rfl) Sy.sorted (by decide +kernel) (pa_cons (pv 2) pa_nil)) pa_nil)) pa_nil)) (nomark _))))))))), ?_⟩
  intro D d l ol one two xs ys bs cs y e x5 x6 x7 x8 x10 Hs H gb gc W dy q
  refine odd_word rto gb W dy rfl rfl fun H1 e1 W1 dy1 => ?_
  refine ⟨by show 1 ≤ sizeLine; decide, fun p np => ?_⟩
  have pd := W1.hd.ne np
  have W2 := W1.same (same_upd (o := .lst [.str "operation"]) np)
  have dy2 := dp_same (EB.same (d := d) (same_upd (o := .lst [.str "operation"]) np)).hq _ _ dy1
  refine ⟨_, rfl, .inl ⟨rfl, _, SqL.of upd_same⟩, ?_⟩
  refine odd_word rta gb W2 dy2 rfl rfl fun H3 e3 W3 dy3 => ?_
  have ab : EB d H1 H3 := (EB.same (same_upd (o := .lst [.str "operation"]) np)).trans (EB.ext e3)
  have at3 : H3 p = some (.lst [.str "operation"]) := e3 _ _ upd_same fun ps z => by cases z
  refine ⟨p, _, _, rfl, rfl, at3, (by show 1 < sizeLine; decide), ?_⟩
  obtain ⟨H4, h4⟩ : ∃ H4, H4 = upd H3 p (.lst ([.str "operation"] ++ [.str "operation"])) := ⟨_, rfl⟩
  rw [← h4]
  have ab4 : EB d H1 H4 := by rw [h4]; exact EB.upd_new np ab
  have W4 : Way K CF T d l ol one two xs ys bs cs Hs H4 := W1.go (by rw [h4]; exact W3.hd.upd pd) (by rw [h4]; exact tabs_lst at3 W3.ht fun b o n z => by rw [upd_ne n]; exact z) ab4
  have at4 : H4 p = some (.lst [.str "operation", .str "operation"]) := by rw [h4]; exact upd_same
  refine ⟨_, rfl, .inl ⟨rfl, _, SqL.of at4⟩, ?_⟩
  refine odd_word rts gb W4 (dp_same ab4.hq _ _ dy1) rfl rfl fun H5 e5 W5 dy5 => ?_
  have at5 : H5 p = some (.lst [.str "operation", .str "operation"]) := e5 _ _ at4 fun ps z => by cases z
  have ab5 := ab4.trans (EB.ext e5)
  refine ⟨p, _, _, rfl, rfl, at5, (by show 2 < sizeLine; decide), ?_⟩
  obtain ⟨H6, h6⟩ : ∃ H6, H6 = upd H5 p (.lst ([.str "operation", .str "operation"] ++ [.str "operation"])) := ⟨_, rfl⟩
  rw [← h6]
  have ab6 : EB d H1 H6 := by rw [h6]; exact EB.upd_new np ab5
  have W6 : Way K CF T d l ol one two xs ys bs cs Hs H6 := W1.go (by rw [h6]; exact W5.hd.upd pd) (by rw [h6]; exact tabs_lst at5 W5.ht fun b o n z => by rw [upd_ne n]; exact z) ab6
  have at6 : H6 p = some (.lst [.str "operation", .str "operation", .str "operation"]) := by rw [h6]; exact upd_same
  have dy6 := dp_same ab6.hq _ _ dy1
  refine ⟨_, rfl, by show 1 ≤ sizeLine; decide, fun a7 n7 => ⟨a7, 3, [.str "operation"], rfl, rfl, upd_same, by decide, by decide, by decide, fun a8 n8 => ?_⟩⟩
  have s8 := (same_upd (o := .lst [.str "operation"]) n7).trans (same_upd (o := .lst [.str "operation", .str "operation", .str "operation"]) n8)
  have three : ∀ {H : Hp}, DpAll K H [.str "operation", .str "operation", .str "operation"] [.str "operation", .str "operation", .str "operation"] := .cons (.str _) (.cons (.str _) (.cons (.str _) .nil))
  refine ⟨.list [.str "operation", .str "operation", .str "operation"], .list [.str "operation", .str "operation", .str "operation"], .lst (SqL.of (s8 _ _ at6)) three, .lst (SqL.of upd_same) three, rfl, rfl, by decide +kernel, _, rfl, ?_⟩
  rw [if_pos rfl, show (!(PyData.list [.str "operation", .str "operation", .str "operation"]).eqv (.list [.str "operation", .str "operation", .str "operation"])) = false by decide +kernel]
  refine ite2 (fun h => by cases h) (fun _ => ?_)
  have W8 := W6.same s8
  have dy8 := dp_same (EB.same (d := d) s8).hq _ _ dy6
  obtain ⟨g1, g2, g3⟩ := goodB_iff.mp gb
  obtain ⟨k1, k2, k3⟩ := goodB_iff.mp gc
  have alls : ∀ d ∈ sortD bs, barB d = true := fun e he => g2 e ((sortD_perm bs).mem_iff.mp he)
  have allt : ∀ d ∈ sortD cs, barB d = true := fun e he => k2 e ((sortD_perm cs).mem_iff.mp he)
  have ls : (sortD bs).length = bs.length := (sortD_perm bs).length_eq
  have lt : (sortD cs).length = cs.length := (sortD_perm cs).length_eq
  obtain ⟨pa1, ⟨dx1, fa1⟩, dd1⟩ := W8.f1.same hq_in
  refine ⟨_, rfl, one, dx1, _, rfl, fa1, rfl, _, rfl, one, sortD bs, y, none, rfl, ⟨pa1, ⟨dx1, fa1⟩, dd1⟩, alls, by omega, .data (dp_same hq_in _ _ dy8), fun H9 s9 => ⟨_, rfl, ?_⟩⟩
  rw [show partD (sortD bs) none = false from rfl]
  refine ite2 (fun h => by cases h) (fun _ => ?_)
  have W9 := W8.same s9
  obtain ⟨pa1, ⟨dx1, fa1⟩, dd1⟩ := W9.f1.same hq_in
  obtain ⟨pa2, ⟨dx2, fa2⟩, dd2⟩ := W9.f2.same hq_in
  refine ⟨_, rfl, _, rfl, one, dx1, _, .none, rfl, fa1, .inr ⟨two, dx2, _, rfl, fa2⟩, one, sortD bs, .ref two, some (sortD cs), rfl, ⟨pa1, ⟨dx1, fa1⟩, dd1⟩, alls, .fil rfl ⟨pa2, ⟨dx2, fa2⟩, dd2⟩ allt, fun H10 s10 => ?_⟩
  have W10 := W9.same s10
  refine ⟨_, rfl, ?_⟩
  dsimp only [tNil]
  refine sort_of (.inl (SqL.of (hq_in _ _ W10.l))) (dpAll_same hq_in _ _ W10.db) g2 (by omega) fun a11 z11 n11 d11 => ?_
  have s11 := s10.trans (same_upd (o := .lst z11) n11)
  have W11 := W10.same (same_upd (o := .lst z11) n11)
  refine ⟨_, rfl, ?_⟩
  dsimp only [tNil]
  refine sort_of (.inl (SqL.of (hq_in _ _ W11.ol))) (dpAll_same hq_in _ _ W11.dc) k2 (by omega) fun a12 z12 n12 d12 => ?_
  have W12 := W11.same (same_upd (o := .lst z12) n12)
  refine ⟨.list (sortD bs), .list (sortD cs), .lst (SqL.of ((same_upd n12) _ _ upd_same)) (dpAll_same (same_upd n12) _ _ d11), .lst (SqL.of upd_same) d12, plain_all alls, plain_all allt, ?_, ?_⟩
  · have := depth_all alls
    simp only [PyData.depth]
    omega
  refine ⟨rfl, false, ?_, ?_⟩
  · show V.bl (!decide (V.bl (PyData.eqv (.tuple (sortD bs)) (.tuple (sortD cs))) = V.bl (PyData.eqv (.tuple (sortD bs)) (.tuple (sortD cs))))) = V.bl false
    simp
  refine ite2 (fun h => by cases h) (fun _ => ?_)
  generalize upd (upd H10 a11 (.lst z11)) a12 (.lst z12) = G at W12
  obtain ⟨pa1, ⟨dx1, fa1⟩, dd1⟩ := W12.f1.same hq_in
  have may1 : MayShow (.tuple (sortD bs)) := (shw_bars alls (by omega)).may (by decide) (by decide)
  have may2 : MayShow (.tuple (sortD cs)) := (shw_bars allt (by omega)).may (by decide) (by decide)
  refine ⟨_, rfl, one, dx1, _, rfl, fa1, one, sortD bs, rfl, ⟨pa1, ⟨dx1, fa1⟩, dd1⟩, fun p1 f1 d1 => ⟨_, .tuple (sortD bs), rfl, d1, may1, ?_⟩⟩
  refine ⟨_, rfl, ?_⟩
  dsimp only [tNil]
  refine sort_of (.inl (SqL.of (hq_in _ _ W12.l))) (dpAll_same hq_in _ _ W12.db) g2 (by omega) fun a13 z13 n13 d13 => ?_
  refine ⟨a13, z13, rfl, .inl ⟨SqL.of upd_same, fun a14 n14 => ⟨_, .tuple (sortD bs), rfl, .tup (SqT.of upd_same) (dpAll_same (same_upd n14) _ _ d13), may1, ?_⟩⟩⟩
  have s14 := (same_upd (o := .lst z13) n13).trans (same_upd (o := .tup z13) n14)
  have W14 := W12.same s14
  generalize upd (upd G a13 (.lst z13)) a14 (.tup z13) = G2 at W14
  generalize (PyData.tuple (sortD bs)).shown = S1
  refine ⟨rfl, true, ?_, ?_⟩
  · simp
  refine ite2 (fun _ => ?_) (fun h => absurd rfl h)
  obtain ⟨pb1, ⟨dy1', fb1⟩, ee1⟩ := W14.f2.same hq_in
  refine ⟨_, rfl, two, dy1', _, rfl, fb1, two, sortD cs, rfl, ⟨pb1, ⟨dy1', fb1⟩, ee1⟩, fun p2 f2 d2 => ⟨_, .tuple (sortD cs), rfl, d2, may2, ?_⟩⟩
  refine ⟨_, rfl, ?_⟩
  dsimp only [tNil]
  refine sort_of (.inl (SqL.of (hq_in _ _ W14.ol))) (dpAll_same hq_in _ _ W14.dc) k2 (by omega) fun a15 z15 n15 d15 => ?_
  refine ⟨a15, z15, rfl, .inl ⟨SqL.of upd_same, fun a16 n16 => ⟨_, .tuple (sortD cs), rfl, .tup (SqT.of upd_same) (dpAll_same (same_upd n16) _ _ d15), may2, ?_⟩⟩⟩
  have W16 := W14.same ((same_upd (o := .lst z15) n15).trans (same_upd (o := .tup z15) n16))
  generalize (PyData.tuple (sortD cs)).shown = S2
  refine ⟨rfl, ?_⟩
  rw [show decide (V.str S2 = V.str S2) = true by simp]
  exact q _ W16.hd W16.ht W16.eb
end
end LR
set_option Elab.async false
set_option linter.all false
set_option maxRecDepth 100000
set_option maxHeartbeats 4000000
namespace LR
open PySem PySem.Spec PyProof.Rows L2 CG SN KD OW LamX
open PySem.W (kitOne Frag exmOne findIn keepIn codeIn excIn subIn typeIn)
section
variable {P : Program} {w : World} {K : Frag} {mg : Str → Option Value} {base : Heap} {CF cI cO : Addr} {T : List (Addr × Str)} {f c pT : Addr} {A : Around} {outer : List Env} {s : Shared} {H0 : Hp} {E : XK}
/-- the word for either, and an odd operand -/
theorem pair_B (C : Cm P w K mg base CF cI cO) (O : Ops P w K mg base CF) (O2 : Ops2 P w K mg base CF cI cO) (L : Lib P w K mg base CF cI) (B : Tb base mg T c pT qPr) (hg : A.guards = some []) (hr : Room 10 (A.deeper (envOfC "_law_pair_right" (defScope sPair) s.heap.objs.size f (.ref c)))) :
    ∃ t, PSs (XP P w K mg base f c A outer s H0 E) ((defBody sPair).drop 6) t ∧
      ∀ (D : Ends) (d l ol one two r : Addr) (xs ys zs : List V) (bs cs : List PyData) (x6 x7 x8 x9 x10 : Option V) (Hs H : Hp), goodB bs = true → goodB cs = true → bs.length ≤ 45 → Way K CF T d l ol one two xs ys bs cs Hs H → Hq d H r = some (.lst zs) → DpAll K (Hq d H) zs (sortD (rOrB bs cs)) →
        (∀ H', DiceAt H' d → Tabs T H' → EB d Hs H' → D.rt (.bl true) H') → t D [some (.ref d), some (.ref l), some (.ref ol), some (.ref one), some (.ref two), some (.ref r), x6, x7, x8, x9, x10] H := by
  obtain ⟨tK, hC, qC⟩ := pair_C C O O2 B hg hr (P := P) (w := w) (f := f) (s := s) (outer := outer) (H0 := H0) (E := E)
  have Sy := C.sy
  obtain ⟨⟨fo, dfo, Do, Go⟩, dro, rto⟩ := O2.or_
  obtain ⟨fP, dP, GPk, gPk, kPk, bPk⟩ := L.pick
  obtain ⟨g, oc, od, kV, doc, pm, an, cdv, ct, osl, gE, kE, lkE, cdE, bE⟩ := O2.word
  have hr2 : Room 2 _ := hr.mono (by decide)
  have hr4 : Room 4 _ := hr.mono (by decide)
  have hu := hr.units
  refine ⟨_, pss_cons (ps_if (pt_cmpR op_ne (pe_lamcall (T := T) (TT := TWord K CF cI cO) (k := 8) (a := "_law_call") (Ng := NW) (t := fun E => tOp (rBin CF (spOp K CF cI cO rOrB) E) (tVar 3) (tVar 4)) rfl gE kE lkE cdE bE scWL rfl (Or.inl rfl)
        (word_gives C O2.mx hg hr4) B.tb rfl B.m B.u hr (lamS_by (show lamSB (defScope sPair) _ = true by decide +kernel)) rfl (fun _ _ _ _ _ => rfl)
        (fun A outer s H E f c' hrl => pe_op (op_bin (E := E) (op := .BitOr) Go hrl C.fc.self Do (passes_call (takes_of rfl rfl rfl rfl) fun _ _ _ _ h => h)) (pv 3) (pv 4)))
        (pe_ifExp (pt_cmpR op_le (pe_callB call_len (by rfl) Sy.len PySem.boot_len (pa_cons (pv 5) pa_nil)) pe_int (nomark _)) (pe_callB (call_reprD hg hu) (by rfl) Sy.repr PyProof.Rows.boot_repr (pa_cons (pe_callTy call_tuple_of (by rfl) Sy.tuple PyProof.Rows.boot_tuple (pa_cons (pv 5) pa_nil)) pa_nil)) pe_str) (nomark _))
        (pss_one (ps_ret pe_bl)) pss_nil)
    (pss_cons (ps_set (i := 9) scPr.nd rfl (Or.inr rfl) (pe_call GPk hr2 rfl gPk kPk bPk .nil pass0 (pa_cons (pv 0) (pa_cons (pe_lst (pa_cons pe_non (pa_cons pe_int (pa_cons (pe_callTy call_tuple_of (by rfl) Sy.tuple PyProof.Rows.boot_tuple (pa_cons (pv 1) pa_nil)) (pa_cons (pv 1) (pa_cons pe_str pa_nil)))))) pa_nil)))) hC), ?_⟩
  intro D d l ol one two r xs ys zs bs cs x6 x7 x8 x9 x10 Hs H gb gc lb W hz dz q
  have rest : ∀ H2, Way K CF T d l ol one two xs ys bs cs Hs H2 → (tAsg (tCall spPick [] E0 (tCons (tVar 0) (tCons (tLst (tCons (tC V.non) (tCons (tC (V.int 0)) (tCons (tCB (fun xs H Q => ∃ p ys, xs = [.ref p] ∧ ((SqL K H p ys ∧ ∀ l, H l = none → Q (.ref l) (upd H l (.tup ys))) ∨ (SqT K H p ys ∧ Q (.ref p) H))) (tCons (tVar 1) tNil)) (tCons (tVar 1) (tCons (tC (V.str "child")) tNil)))))) tNil))) (gName 9)) { D with nx := tK D } [some (.ref d), some (.ref l), some (.ref ol), some (.ref one), some (.ref two), some (.ref r), x6, x7, x8, x9, x10] H2 := by
    intro H2 W2
    refine ⟨_, rfl, _, rfl, l, xs, rfl, .inl ⟨SqL.of (hq_in _ _ W2.l), fun a3 n3 => ?_⟩⟩
    have W3 := W2.same (same_upd (o := .tup xs) n3)
    have a3d := W2.hd.ne n3
    refine ⟨_, rfl, by show 5 ≤ sizeLine; decide, fun a4 n4 => ?_⟩
    have a4d := W3.hd.ne n4
    have W4 := W3.same (same_upd (o := .lst [.non, .int 0, .ref a3, .ref l, .str "child"]) n4)
    refine ⟨d, a4, _, rfl, W4.hd, upd_same, a4d, (by show 0 < 5; decide), (by show 5 < 1000; decide), fun v H5 hv d5 b5 => ?_⟩
    have W5 := W4.sb (SB.but b5) d5
    have t35 : EB d (upd H2 a3 (.tup xs)) H5 := (EB.same (same_upd (o := .lst [.non, .int 0, .ref a3, .ref l, .str "child"]) n4)).trans (EB.sb (SB.but b5))
    obtain ⟨e, de⟩ : ∃ e, Dp K (Hq d H5) v e := by
      simp only [List.mem_cons, List.not_mem_nil, or_false] at hv
      rcases hv with rfl | rfl | rfl | rfl | rfl
      · exact ⟨_, .non⟩
      · exact ⟨_, .int 0⟩
      · exact ⟨.tuple bs, .tup (SqT.of (hq_of a3d (t35 _ _ a3d (fun ps z => by cases z) upd_same) fun ps z => by cases z)) W5.db⟩
      · exact ⟨.list bs, .lst (SqL.of W5.l) W5.db⟩
      · exact ⟨_, .str _⟩
    exact qC D d l ol one two xs ys bs cs v e _ _ _ _ _ Hs H5 gb gc W5 de q
  obtain ⟨g1, g2, g3⟩ := goodB_iff.mp gb
  obtain ⟨k1, k2, k3⟩ := goodB_iff.mp gc
  have alls : ∀ d ∈ sortD bs, barB d = true := fun e he => g2 e ((sortD_perm bs).mem_iff.mp he)
  have allt : ∀ d ∈ sortD cs, barB d = true := fun e he => k2 e ((sortD_perm cs).mem_iff.mp he)
  have pm : (rOrB (sortD bs) (sortD cs)).Perm (rOrB bs cs) := or_perm (sortD_perm bs) (sortD_perm cs)
  have allo : ∀ d ∈ rOrB bs cs, barB d = true := fun d hd => by
    rcases List.mem_append.mp hd with z | z
    · exact g2 d z
    · exact k2 d (List.mem_filter.mp z).1
  have go : goodB (rOrB (sortD bs) (sortD cs)) = decide ((rOrB bs cs).length ≤ 60) := by rw [goodB_perm pm, good_or gb gc]
  have so : sortD (rOrB (sortD bs) (sortD cs)) = sortD (rOrB bs cs) := (sortD_eq allo pm.symm).symm
  have lo : zs.length = (rOrB bs cs).length := by rw [dpAll_len dz]; exact (sortD_perm _).length_eq
  refine ⟨W.ht, fun H1 e1 t1 => ?_⟩
  have W1 := W.ext e1 t1
  obtain ⟨pa1, ⟨dx1, fa1⟩, dd1⟩ := W1.f1.same hq_in
  obtain ⟨pa2, ⟨dx2, fa2⟩, dd2⟩ := W1.f2.same hq_in
  have zs2 : ∀ H2, Same H1 H2 → H2 r = some (.lst zs) ∧ DpAll K H2 zs (sortD (rOrB bs cs)) := fun H2 s2 => by
    have eb := (EB.ext (d := d) e1).trans (EB.same s2)
    exact ⟨hq_in _ _ (eb.hq _ _ hz), dpAll_same (eb.hq.trans hq_in) _ _ dz⟩
  refine ⟨_, rfl, _, rfl, one, dx1, _, two, dx2, _, rfl, rfl, fa1, fa2, one, sortD bs, .ref two, some (sortD cs), rfl, ⟨pa1, ⟨dx1, fa1⟩, dd1⟩, by rw [goodB_sort]; exact gb, .fil rfl ⟨pa2, ⟨dx2, fa2⟩, dd2⟩ allt, (fun z e => by cases e; rw [goodB_sort]; exact gc), (fun e => by cases e), (fun z e g H2 b s2 nb fb => ?_), (fun z e g H2 s2 => ?_)⟩
  · cases e
    rw [so] at fb
    rw [go] at g
    have g' := of_decide_eq_true g
    obtain ⟨pb, ⟨dxb, fab⟩, ddb⟩ := fb
    have gg : goodB (rOrB bs cs) = true := by rw [good_or gb gc]; exact g
    have may : MayShow (.tuple (sortD (rOrB bs cs))) := (shw_good (by rw [goodB_sort]; exact gg)).may (by decide) (by decide)
    refine ⟨b, dxb, _, rfl, fab, b, _, rfl, ⟨pb, ⟨dxb, fab⟩, ddb⟩, fun p2 f2 d2 => ⟨_, .tuple (sortD (rOrB bs cs)), rfl, d2, may, ?_⟩⟩
    obtain ⟨z1, z2⟩ := zs2 H2 s2
    refine ⟨_, rfl, .ref r, _, rfl, .inl ⟨_, SqL.of z1, rfl⟩, _, _, rfl, rfl, _, rfl, ite2 (fun _ => ?_) (fun h => ?_)⟩
    · refine ⟨_, rfl, r, zs, rfl, .inl ⟨SqL.of z1, fun a9 n9 => ⟨_, .tuple (sortD (rOrB bs cs)), rfl, .tup (SqT.of upd_same) (dpAll_same (same_upd n9) _ _ z2), may, ?_⟩⟩⟩
      generalize (PyData.tuple (sortD (rOrB bs cs))).shown = S
      refine ⟨rfl, false, by simp, ite2 (fun h => by cases h) (fun _ => ?_)⟩
      exact rest _ ((W1.same s2).same (same_upd n9))
    · exact absurd (decide_eq_true (by omega)) h
  · cases e
    rw [go] at g
    have g' := of_decide_eq_false g
    refine .inr ⟨rfl, ?_⟩
    obtain ⟨z1, z2⟩ := zs2 H2 s2
    refine ⟨_, rfl, .ref r, _, rfl, .inl ⟨_, SqL.of z1, rfl⟩, _, _, rfl, rfl, _, rfl, ite2 (fun h => ?_) (fun _ => ?_)⟩
    · exact absurd (of_decide_eq_true h) (by omega)
    · refine ⟨rfl, false, by decide +kernel, ite2 (fun h => by cases h) (fun _ => ?_)⟩
      exact rest _ (W1.same s2)
end
end LR
set_option Elab.async false
set_option linter.all false
set_option maxRecDepth 100000
set_option maxHeartbeats 4000000
namespace LR
open PySem PySem.Spec PyProof.Rows L2 CG SN KD OW LamX
open PySem.W (kitOne Frag exmOne findIn keepIn codeIn excIn subIn typeIn)
theorem Shw.may' {d : PyData} {m k : Nat} (s : Shw d m k) (hm : m ≤ 1000000) (hk : k ≤ 10) : MayShow d := ⟨s.sh, s.nd, by have := s.dp; omega, Nat.le_trans s.ln (Nat.le_trans hm (by decide))⟩
def spPair (K : Frag) (T : List (Addr × Str)) : Sp := fun vs H Q _ => ∃ (d l ol : Addr) (xs ys : List V) (bs cs : List PyData), vs = [.ref d, .ref l, .ref ol] ∧ DiceAt H d ∧ Tabs T H ∧ Hq d H l = some (.lst xs) ∧ Hq d H ol = some (.lst ys) ∧ DpAll K (Hq d H) xs bs ∧ DpAll K (Hq d H) ys cs ∧ goodB bs = true ∧ goodB cs = true ∧ bs.length ≤ 45 ∧
  ∀ H', DiceAt H' d → Tabs T H' → EB d H H' → Q (.bl true) H'
theorem sqT_hq {K : Frag} {d a : Addr} {xs : List V} {H : Hp} (hd : DiceAt H d) (h : SqT K H a xs) : SqT K (Hq d H) a xs := by
  obtain ⟨x, y, z, e⟩ := hd
  rcases h with (h | ⟨o, h⟩) | h
  · exact .inl (.inl (hq_of (fun q => by rw [q, e] at h; cases h) h fun ps q => by cases q))
  · exact .inl (.inr ⟨o, hq_of (fun q => by rw [q, e] at h; cases h) h fun ps q => by cases q⟩)
  · exact .inr h
theorem atoms_any {K : Frag} {H H' : Hp} {h o n : Str} {i : Int} {xs : List V} (dd : DpAll K H xs [.str h, .str o, .int i, .str n]) : DpAll K H' xs [.str h, .str o, .int i, .str n] := by
  cases dd with
  | cons d1 dd =>
    cases d1
    cases dd with
    | cons d2 dd =>
      cases d2
      cases dd with
      | cons d3 dd =>
        cases d3
        cases dd with
        | cons d4 dd =>
          cases d4
          cases dd
          exact dpAll_strs4 _ _ _ _
theorem bars_hq {K : Frag} {d : Addr} {H : Hp} (hd : DiceAt H d) : ∀ {xs : List V} {bs : List PyData}, DpAll K H xs bs → (∀ b ∈ bs, barB b = true) → DpAll K (Hq d H) xs bs
  | _, [], h, _ => by cases h; exact .nil
  | _, b :: bs, h, ab => by
    cases h with
    | cons h1 h2 =>
      refine .cons ?_ (bars_hq hd h2 fun e he => ab e (List.mem_cons_of_mem _ he))
      obtain ⟨h, o, i, n, rfl⟩ := bar_shape (ab b List.mem_cons_self)
      cases h1 with
      | tup q dd => exact .tup (sqT_hq hd q) (atoms_any dd)
theorem tup_hq {K : Frag} {d : Addr} {H : Hp} {x : V} {bs : List PyData} (hd : DiceAt H d) (h : Dp K H x (.tuple bs)) (ab : ∀ b ∈ bs, barB b = true) : Dp K (Hq d H) x (.tuple bs) := by
  cases h with
  | tup q dd => exact .tup (sqT_hq hd q) (bars_hq hd dd ab)
theorem fb_q {K : Frag} {CF d a : Addr} {H : Hp} {bs : List PyData} (hd : DiceAt H d) (h : FB K CF H a bs) (ab : ∀ b ∈ bs, barB b = true) : FB K CF (Hq d H) a bs := by
  obtain ⟨p, ⟨dx, fa⟩, dd⟩ := h
  obtain ⟨x, y, z, e⟩ := id hd
  exact ⟨p, ⟨dx, hq_of (fun q => by rw [q, e] at fa; cases fa) fa fun ps q => by cases q⟩, tup_hq hd dd ab⟩
theorem part_sub {bs cs : List PyData} : ((sortD bs).all fun b => hasB (sortD cs) b) = (sortD (rSubB bs cs)).isEmpty := by
  rw [Bool.eq_iff_iff, List.all_eq_true, List.isEmpty_iff]
  have e : sortD (rSubB bs cs) = [] ↔ rSubB bs cs = [] := by
    constructor
    · intro h
      have := (sortD_perm (rSubB bs cs)).length_eq
      rw [h] at this
      exact List.eq_nil_of_length_eq_zero this.symm
    · intro h
      rw [h]
      exact List.eq_nil_of_length_eq_zero (sortD_perm []).length_eq
  rw [e]
  unfold rSubB
  rw [List.filter_eq_nil_iff]
  constructor
  · intro h d hd
    have := h d ((sortD_perm bs).mem_iff.mpr hd)
    rw [hasB_perm (sortD_perm cs)] at this
    rw [this]
    decide
  · intro h d hd
    have := h d ((sortD_perm bs).mem_iff.mp hd)
    rw [hasB_perm (sortD_perm cs)]
    simpa using this
theorem part_and {bs cs : List PyData} : ((sortD (rAndB bs cs)).all fun b => hasB (sortD cs) b) = true := by
  rw [List.all_eq_true]
  intro d hd
  rw [hasB_perm (sortD_perm cs)]
  exact (List.mem_filter.mp ((sortD_perm _).mem_iff.mp hd)).2
theorem part_self {bs : List PyData} (b : ∀ d ∈ bs, barB d = true) : (bs.all fun d => hasB bs d) = true := by
  rw [List.all_eq_true]
  intro d hd
  exact (hasB_iff b (b d hd)).mpr hd
section
variable {P : Program} {w : World} {K : Frag} {mg : Str → Option Value} {base : Heap} {CF cI cO : Addr} {T : List (Addr × Str)} {f c pT : Addr} {A : Around} {outer : List Env} {s : Shared} {H0 : Hp} {E : XK}
theorem op_inLk {X : Cx} (hk : X.K = K) (hu : X.A.units + 64 < cLine) : OpR X (compareOp .In) (rInL K false) := by subst hk; exact op_inL hu
theorem op_notInLk {X : Cx} (hk : X.K = K) (hu : X.A.units + 64 < cLine) : OpR X (compareOp .NotIn) (rInL K true) := by subst hk; exact op_notInL hu
theorem bin_way {r : List PyData → List PyData → List PyData} {d l ol one two : Addr} {xs ys : List V} {bs cs : List PyData} {Hs H : Hp} {Q : VK} (gb : goodB bs = true) (gc : goodB cs = true) (W : Way K CF T d l ol one two xs ys bs cs Hs H) (gr : goodB (r (sortD bs) (sortD cs)) = true)
    (q : ∀ H1 b, Same H H1 → FB K CF H1 b (sortD (r (sortD bs) (sortD cs))) → Q (.ref b) H1) : rBin CF (spOp K CF cI cO r) E0 (.ref one) (.ref two) H Q := by
  obtain ⟨pa1, ⟨dx1, fa1⟩, dd1⟩ := W.f1.same hq_in
  obtain ⟨pa2, ⟨dx2, fa2⟩, dd2⟩ := W.f2.same hq_in
  obtain ⟨k1, k2, k3⟩ := goodB_iff.mp gc
  refine ⟨one, dx1, _, two, dx2, _, rfl, rfl, fa1, fa2, one, sortD bs, .ref two, some (sortD cs), rfl, ⟨pa1, ⟨dx1, fa1⟩, dd1⟩, by rw [goodB_sort]; exact gb, .fil rfl ⟨pa2, ⟨dx2, fa2⟩, dd2⟩ (fun e he => k2 e ((sortD_perm cs).mem_iff.mp he)), (fun z e => by cases e; rw [goodB_sort]; exact gc), (fun e => by cases e), (fun z e g H2 b s2 nb fb => ?_), (fun z e g H2 s2 => ?_)⟩
  · cases e
    exact q H2 b s2 fb
  · cases e
    rw [gr] at g
    cases g
theorem ok_pair {fd : FuncData} (F : FunC K "_law_pair_right" "_law_pair_right" sPair f fd c) (C : Cm P w K mg base CF cI cO) (O : Ops P w K mg base CF) (O2 : Ops2 P w K mg base CF cI cO) (L : Lib P w K mg base CF cI) (B : Tb base mg T c pT qPr) :
    FnG P w K mg base CX0 11 f fd ["_law_dice_here", "_law_bars", "_law_others"] (spPair K T) := by
  refine fnC_of (N := NPr) F scPr (fun vs H Q E h => ?_) (fun A outer s H vs Q E hr hg h => ?_)
  · obtain ⟨d, l, ol, xs, ys, bs, cs, rfl, _⟩ := h
    rfl
  · obtain ⟨d, l, ol, xs, ys, bs, cs, rfl, hd, hT, hl, hol, hb, hc, gb, gc, lb, q⟩ := h
    obtain ⟨tB, hB, qB⟩ := pair_B C O O2 L B hg hr (P := P) (w := w) (f := f) (s := s) (outer := outer) (H0 := H) (E := E)
    obtain ⟨pp, gp, dp, PR, GP, bP⟩ := C.pr
    obtain ⟨fm, dm, MK, GM, bM⟩ := C.make
    have Sy := C.sy
    obtain ⟨⟨fa, dfa, Da, Ga⟩, dra, rta⟩ := O2.and_
    obtain ⟨⟨fs, dfs, Ds, Gs⟩, drs, rts⟩ := O2.sub_
    obtain ⟨fp, dfp, Mp, Gp, bp⟩ := O2.part
    have hr2 : Room 2 _ := hr.mono (by decide)
    have hr3 : Room 3 _ := hr.mono (by decide)
    have hr7 : Room 7 _ := hr.mono (by decide)
    have hr8 : Room 8 _ := hr.mono (by decide)
    have hu := hr.units
    refine ⟨_, PSs.nox (pss_cons (ps_asg (pe_tup (pa_cons (pe_make MK GM hr7 rfl C.fc.g bM .nil passF (pa_cons (pe_callTy call_tuple_of (by rfl) Sy.tuple PyProof.Rows.boot_tuple (pa_cons (pv 1) pa_nil)) pa_nil)) (pa_cons (pe_make MK GM hr7 rfl C.fc.g bM .nil passF (pa_cons (pe_callTy call_tuple_of (by rfl) Sy.tuple PyProof.Rows.boot_tuple (pa_cons (pv 2) pa_nil)) pa_nil)) pa_nil)))
          (pg_tup rfl (pgs_cons (pg_name (i := 3) scPr.nd rfl (Or.inr rfl)) (pgs_cons (pg_name (i := 4) scPr.nd rfl (Or.inr rfl)) pgs_nil))))
      (pss_cons (ps_set (i := 5) scPr.nd rfl (Or.inl rfl) (pe_callB (cr_sortD hr.units) (by rfl) Sy.sorted (by decide +kernel) (pa_cons (pe_op op_cat (pv 1) (pe_lc (own := [("_law_bar_here", 10)]) (g := gName 10) rfl scPr.nd (pi_list (pv 2))
          (blkOk_by (N := NPr) (sc := defScope sPair) (by decide +kernel)) (fun _ _ _ _ _ => pg_name (i := 10) scPr.nd rfl (Or.inl rfl)) (fun _ _ _ _ _ => pts_one (pt_cmpR (op_notInLk (K := K) rfl hr.units) (pv 10) (pv 1) (by rfl))) (fun _ _ _ _ _ => pv 10))) pa_nil)))
      (pss_cons (ps_set (i := 6) scPr.nd rfl (Or.inl rfl) (pe_callB (cr_sortD hr.units) (by rfl) Sy.sorted (by decide +kernel) (pa_cons (pe_lc (own := [("_law_bar_here", 10)]) (g := gName 10) rfl scPr.nd (pi_list (pv 1))
          (blkOk_by (N := NPr) (sc := defScope sPair) (by decide +kernel)) (fun _ _ _ _ _ => pg_name (i := 10) scPr.nd rfl (Or.inl rfl)) (fun _ _ _ _ _ => pts_one (pt_cmpR (op_inLk (K := K) rfl hr.units) (pv 10) (pv 2) (by rfl))) (fun _ _ _ _ _ => pv 10)) pa_nil)))
      (pss_cons (ps_set (i := 7) scPr.nd rfl (Or.inl rfl) (pe_callB (cr_sortD hr.units) (by rfl) Sy.sorted (by decide +kernel) (pa_cons (pe_lc (own := [("_law_bar_here", 10)]) (g := gName 10) rfl scPr.nd (pi_list (pv 1))
          (blkOk_by (N := NPr) (sc := defScope sPair) (by decide +kernel)) (fun _ _ _ _ _ => pg_name (i := 10) scPr.nd rfl (Or.inl rfl)) (fun _ _ _ _ _ => pts_one (pt_cmpR (op_notInLk (K := K) rfl hr.units) (pv 10) (pv 2) (by rfl))) (fun _ _ _ _ _ => pv 10)) pa_nil)))
      (pss_cons (ps_set (i := 8) scPr.nd rfl (Or.inl rfl) (pe_lst (pa_cons (pe_prop (pe_op (op_bin (op := .BitAnd) Ga hr8 C.fc.self Da passF) (pv 3) (pv 4)) C.fc.cl PR GP hr2 bP .nil pass0 rfl)
          (pa_cons (pe_prop (pe_op (op_bin (op := .Sub) Gs hr8 C.fc.self Ds passF) (pv 3) (pv 4)) C.fc.cl PR GP hr2 bP .nil pass0 rfl)
          (pa_cons (pe_meth (pv 3) C.fc.cl Mp Gp hr3 bp .nil pass0 (pa_cons (pv 4) pa_nil))
          (pa_cons (pe_meth (pe_op (op_bin (op := .BitAnd) Ga hr8 C.fc.self Da passF) (pv 3) (pv 4)) C.fc.cl Mp Gp hr3 bp .nil pass0 (pa_cons (pv 4) pa_nil))
          (pa_cons (pe_meth (pv 3) C.fc.cl Mp Gp hr3 bp .nil pass0 (pa_cons (pv 3) pa_nil)) pa_nil)))))))
      (pss_cons (ps_if (pt_cmpR op_ne (pe_callB (call_reprD hg hu) (by rfl) Sy.repr PyProof.Rows.boot_repr (pa_cons (pv 8) pa_nil)) (pe_callB (call_reprD hg hu) (by rfl) Sy.repr PyProof.Rows.boot_repr (pa_cons (pe_lst
          (pa_cons (pe_callTy call_tuple_of (by rfl) Sy.tuple PyProof.Rows.boot_tuple (pa_cons (pv 6) pa_nil)) (pa_cons (pe_callTy call_tuple_of (by rfl) Sy.tuple PyProof.Rows.boot_tuple (pa_cons (pv 7) pa_nil))
          (pa_cons (pe_cmpR (op_eqP hr.units) (pv 7) (pe_lst pa_nil) (nomark _)) (pa_cons pe_bl (pa_cons pe_bl pa_nil)))))) pa_nil)) (nomark _))
        (pss_one (ps_ret pe_bl)) pss_nil) hB)))))), ?_⟩
    have arg : ∀ {H' : Hp} {r : Addr} {ys : List V} {cs : List PyData}, goodB cs = true → SqT K H' r ys → DpAll K H' ys cs → Arg K H' (.ref r) (some cs) := fun g t dd => by
      obtain ⟨g1, g2, _⟩ := goodB_iff.mp g
      exact .yes (.tup t dd) (fun d hd => bar_ok (g2 d hd)) (by omega)
    have bad : ∀ {cs : List PyData} {Z : Prop}, goodB cs = true → goodO (some cs) = false → Z := fun g z => by
      rw [show goodO (some _) = goodB _ from rfl, g] at z
      cases z
    obtain ⟨g1, g2, g3⟩ := goodB_iff.mp gb
    obtain ⟨k1, k2, k3⟩ := goodB_iff.mp gc
    refine ⟨_, rfl, l, xs, rfl, .inl ⟨SqL.of (hq_in _ _ hl), fun a1 n1 => ?_⟩⟩
    have s1 : Same H (upd H a1 (.tup xs)) := same_upd n1
    refine mk_argR (o := some bs) (arg gb (SqT.of upd_same) (dpAll_same (hq_in.trans s1) _ _ hb)) (fun z e g H2 one s2 nb2 fb2 => ?_) (fun z => bad gb z)
    cases e
    have s2' := s1.trans s2
    refine ⟨rfl, _, rfl, ol, ys, rfl, .inl ⟨SqL.of (s2' _ _ (hq_in _ _ hol)), fun a3 n3 => ?_⟩⟩
    have s3 := s2'.trans (same_upd (o := .tup ys) n3)
    refine mk_argR (o := some cs) (arg gc (SqT.of upd_same) (dpAll_same (hq_in.trans s3) _ _ hc)) (fun z e g H4 two s4 nb4 fb4 => ?_) (fun z => bad gc z)
    cases e
    have s4' := s3.trans s4
    refine ⟨rfl, by show 2 ≤ sizeLine; decide, fun p np => ⟨p, _, rfl, SqT.of upd_same, rfl, _, _, rfl, _, _, rfl, rfl, ?_⟩⟩
    obtain ⟨G, hG⟩ : ∃ G, G = upd H4 p (.tup [.ref one, .ref two]) := ⟨_, rfl⟩
    rw [← hG]
    have s5 : Same H G := by rw [hG]; exact s4'.trans (same_upd np)
    have e2 : EB d H G := EB.same s5
    have W0 : Way K CF T d l ol one two xs ys bs cs H G := by
      refine ⟨hd.keep s5, hT.ext s5, e2, e2.hq _ _ hl, e2.hq _ _ hol, dpAll_same e2.hq _ _ hb, dpAll_same e2.hq _ _ hc, ?_, ?_⟩
      · exact fb_q (hd.keep s5) ((fb2.same (((same_upd n3).trans s4).trans (same_upd np))).same (by rw [hG]; exact Same.rfl' _)) fun e he => g2 e ((sortD_perm bs).mem_iff.mp he)
      · exact fb_q (hd.keep s5) ((fb4.same (same_upd np)).same (by rw [hG]; exact Same.rfl' _)) fun e he => k2 e ((sortD_perm cs).mem_iff.mp he)
    have allo : ∀ d ∈ rOrB bs cs, barB d = true := fun d hd => by
      rcases List.mem_append.mp hd with z | z
      · exact g2 d z
      · exact k2 d (List.mem_filter.mp z).1
    have lxs : ∀ {H' : Hp} {ws : List V} {es : List PyData}, DpAll K H' ws es → ws.length = es.length := fun h => dpAll_len h
    have lx := lxs hb
    have ly := lxs hc
    -- either
    refine ⟨_, rfl, _, rfl, ol, rfl, ⟨ys, SqL.of (hq_in _ _ W0.ol)⟩, fun D nD => ?_⟩
    refine lc_dp (K := K) (walk_list (xs := ys)) cs (fun c => !hasB bs c) (fun d => d) ly.symm (Nat.lt_of_le_of_lt (show ys.length ≤ 60 by omega) (by decide)) nD (fun _ => rfl) (fun H' s' => sqL_same s' (SqL.of (hq_in _ _ W0.ol))) ?_ ?_
    · rintro i e z H' H'' hdi same _ ⟨rfl, hxi⟩
      obtain ⟨e', he, dz⟩ := dpAll_at (dpAll_same (hq_in.trans same) _ _ W0.dc) i z hxi
      rw [hdi] at he
      cases he
      have be := k2 e (List.mem_of_getElem? hdi)
      refine ⟨rfl, fun R h => ?_, fun _ H3 s3 R h => ⟨_, rfl, h z H3 (Same.rfl' _) (dp_same (hid_new nD (same.trans s3)) _ _ ?_)⟩⟩
      · refine ⟨_, rfl, _, rfl, e, bs, dz, .lst (SqL.of (same _ _ (hq_in _ _ W0.l))) (dpAll_same (hq_in.trans same) _ _ W0.db), plain_all g2, (bar_depth be).2, Nat.le_trans (depth_all g2) (by decide), _, rfl, ?_⟩
        exact h _ (Same.rfl' _)
      · obtain ⟨e2, he2, dz2⟩ := dpAll_at (dpAll_same hq_in _ _ W0.dc) i z hxi
        rw [hdi] at he2
        cases he2
        exact dz2
    intro H6 acc s6 at6 dd6
    rw [map_id'] at dd6
    have W6 := W0.same s6
    have la := lxs dd6
    have lf : (cs.filter fun c => !hasB bs c).length ≤ cs.length := List.length_filter_le _ _
    refine ⟨l, D, xs, acc, rfl, rfl, hq_in _ _ W6.l, at6, Nat.le_trans (show xs.length + acc.length ≤ 120 by omega) (by decide), fun a7 n7 => ?_⟩
    dsimp only [tNil]
    have s7 := same_upd (o := .lst (xs ++ acc)) n7
    refine sort_of (bs := rOrB bs cs) (.inl (SqL.of upd_same)) (dpAll_app (dpAll_same (hq_in.trans s7) _ _ W6.db) (dpAll_same (hid_in.trans s7) _ _ dd6)) allo (by show (bs ++ _).length ≤ 20000; rw [List.length_append]; omega) fun r zr nr dr => ?_
    have W7 := W6.same s7
    have W8 := W7.same (same_upd (o := .lst zr) nr)
    have rd := W7.hd.ne nr
    have rq : Hq d (upd (upd H6 a7 (.lst (xs ++ acc))) r (.lst zr)) r = some (.lst zr) := hq_of rd upd_same fun ps z => by cases z
    have allso : ∀ d ∈ sortD (rOrB bs cs), barB d = true := fun e he => allo e ((sortD_perm _).mem_iff.mp he)
    have rdd := bars_hq W8.hd dr allso
    generalize upd (upd H6 a7 (.lst (xs ++ acc))) r (.lst zr) = G8 at W8 rq rdd
    -- rAndB
    refine ⟨_, rfl, l, rfl, ⟨xs, SqL.of (hq_in _ _ W8.l)⟩, fun D nD => ?_⟩
    refine lc_dp (K := K) (walk_list (xs := xs)) bs (hasB cs) (fun d => d) lx.symm (Nat.lt_of_le_of_lt (show xs.length ≤ 60 by omega) (by decide)) nD (fun _ => rfl) (fun H' s' => sqL_same s' (SqL.of (hq_in _ _ W8.l))) ?_ ?_
    · rintro i e z H' H'' hdi same _ ⟨rfl, hxi⟩
      obtain ⟨e2, he2, dz2⟩ := dpAll_at (dpAll_same hq_in _ _ W8.db) i z hxi
      rw [hdi] at he2
      cases he2
      have be := g2 e (List.mem_of_getElem? hdi)
      refine ⟨rfl, fun R h => ?_, fun _ H3 s3 R h => ⟨_, rfl, h z H3 (Same.rfl' _) (dp_same (hid_new nD (same.trans s3)) _ _ dz2)⟩⟩
      refine ⟨_, rfl, _, rfl, e, cs, dp_same same _ _ dz2, .lst (SqL.of (same _ _ (hq_in _ _ W8.ol))) (dpAll_same (hq_in.trans same) _ _ W8.dc), plain_all k2, (bar_depth be).2, Nat.le_trans (depth_all k2) (by decide), _, rfl, ?_⟩
      exact h _ (Same.rfl' _)
    intro H9 accH9 sH9 atH9 ddH9
    rw [map_id'] at ddH9
    have WH9 := W8.same sH9
    have allH9 : ∀ d ∈ rAndB bs cs, barB d = true := fun d hd => g2 d (List.mem_filter.mp hd).1
    have lenH9 : (rAndB bs cs).length ≤ bs.length := List.length_filter_le _ _
    dsimp only [tNil]
    refine sort_of (bs := rAndB bs cs) (.inl (SqL.of atH9)) (dpAll_same hid_in _ _ ddH9) allH9 (by omega) fun rb zb nrb drb => ?_
    have VH9 := WH9.same (same_upd (o := .lst zb) nrb)
    have rbd := WH9.hd.ne nrb
    have rbq : Hq d (upd H9 rb (.lst zb)) rb = some (.lst zb) := hq_of rbd upd_same fun ps z => by cases z
    have rball : ∀ d ∈ sortD (rAndB bs cs), barB d = true := fun e he => allH9 e ((sortD_perm _).mem_iff.mp he)
    have rbdd := bars_hq VH9.hd drb rball
    have ebr := (EB.same (d := d) sH9).trans (EB.same (same_upd (o := .lst zb) nrb))
    have rq9 := ebr.hq _ _ rq
    have rdd9 := dpAll_same ebr.hq _ _ rdd
    generalize upd H9 rb (.lst zb) = G9 at VH9 rbq rbdd rq9 rdd9
    -- rSubB
    refine ⟨_, rfl, l, rfl, ⟨xs, SqL.of (hq_in _ _ VH9.l)⟩, fun D nD => ?_⟩
    refine lc_dp (K := K) (walk_list (xs := xs)) bs (fun b => !hasB cs b) (fun d => d) lx.symm (Nat.lt_of_le_of_lt (show xs.length ≤ 60 by omega) (by decide)) nD (fun _ => rfl) (fun H' s' => sqL_same s' (SqL.of (hq_in _ _ VH9.l))) ?_ ?_
    · rintro i e z H' H'' hdi same _ ⟨rfl, hxi⟩
      obtain ⟨e2, he2, dz2⟩ := dpAll_at (dpAll_same hq_in _ _ VH9.db) i z hxi
      rw [hdi] at he2
      cases he2
      have be := g2 e (List.mem_of_getElem? hdi)
      refine ⟨rfl, fun R h => ?_, fun _ H3 s3 R h => ⟨_, rfl, h z H3 (Same.rfl' _) (dp_same (hid_new nD (same.trans s3)) _ _ dz2)⟩⟩
      refine ⟨_, rfl, _, rfl, e, cs, dp_same same _ _ dz2, .lst (SqL.of (same _ _ (hq_in _ _ VH9.ol))) (dpAll_same (hq_in.trans same) _ _ VH9.dc), plain_all k2, (bar_depth be).2, Nat.le_trans (depth_all k2) (by decide), _, rfl, ?_⟩
      exact h _ (Same.rfl' _)
    intro H10 accH10 sH10 atH10 ddH10
    rw [map_id'] at ddH10
    have WH10 := VH9.same sH10
    have allH10 : ∀ d ∈ rSubB bs cs, barB d = true := fun d hd => g2 d (List.mem_filter.mp hd).1
    have lenH10 : (rSubB bs cs).length ≤ bs.length := List.length_filter_le _ _
    dsimp only [tNil]
    refine sort_of (bs := rSubB bs cs) (.inl (SqL.of atH10)) (dpAll_same hid_in _ _ ddH10) allH10 (by omega) fun ra za nra dra => ?_
    have VH10 := WH10.same (same_upd (o := .lst za) nra)
    have rad := WH10.hd.ne nra
    have raq : Hq d (upd H10 ra (.lst za)) ra = some (.lst za) := hq_of rad upd_same fun ps z => by cases z
    have raall : ∀ d ∈ sortD (rSubB bs cs), barB d = true := fun e he => allH10 e ((sortD_perm _).mem_iff.mp he)
    have radd := bars_hq VH10.hd dra raall
    have ebr2 := (EB.same (d := d) sH10).trans (EB.same (same_upd (o := .lst za) nra))
    have rq10 := ebr2.hq _ _ rq9
    have rdd10 := dpAll_same ebr2.hq _ _ rdd9
    have rbq10 := ebr2.hq _ _ rbq
    have rbdd10 := dpAll_same ebr2.hq _ _ rbdd
    generalize upd H10 ra (.lst za) = G10 at VH10 raq radd rq10 rdd10 rbq10 rbdd10
    have alls : ∀ d ∈ sortD bs, barB d = true := fun e he => g2 e ((sortD_perm bs).mem_iff.mp he)
    have allt : ∀ d ∈ sortD cs, barB d = true := fun e he => k2 e ((sortD_perm cs).mem_iff.mp he)
    have ls : (sortD bs).length = bs.length := (sortD_perm bs).length_eq
    have eA : sortD (rAndB (sortD bs) (sortD cs)) = sortD (rAndB bs cs) := (sortD_eq allH9 (and_perm (sortD_perm bs) (sortD_perm cs)).symm).symm
    have eS : sortD (rSubB (sortD bs) (sortD cs)) = sortD (rSubB bs cs) := (sortD_eq allH10 (sub_perm (sortD_perm bs) (sortD_perm cs)).symm).symm
    have gs : goodB (sortD bs) = true := by rw [goodB_sort]; exact gb
    have gA : goodB (rAndB (sortD bs) (sortD cs)) = true := good_and gs
    have gS : goodB (rSubB (sortD bs) (sortD cs)) = true := good_sub gs
    have lA : (sortD (rAndB bs cs)).length ≤ 60 := by rw [(sortD_perm _).length_eq]; omega
    have lS : (sortD (rSubB bs cs)).length ≤ 60 := by rw [(sortD_perm _).length_eq]; omega
    refine ⟨_, rfl, _, rfl, bin_way gb gc VH10 gA fun H11 b11 s11 fb11 => ?_⟩
    rw [eA] at fb11
    have W11 := VH10.same s11
    obtain ⟨p11, ⟨dx11, fa11⟩, dd11⟩ := fb11
    refine ⟨b11, dx11, _, rfl, fa11, b11, _, rfl, ⟨p11, ⟨dx11, fa11⟩, dd11⟩, fun p1 f1 d1 => ?_⟩
    refine ⟨_, rfl, _, rfl, bin_way gb gc W11 gS fun H12 b12 s12 fb12 => ?_⟩
    rw [eS] at fb12
    have W12 := W11.same s12
    obtain ⟨p12, ⟨dx12, fa12⟩, dd12⟩ := fb12
    refine ⟨b12, dx12, _, rfl, fa12, b12, _, rfl, ⟨p12, ⟨dx12, fa12⟩, dd12⟩, fun p2 f2 d2 => ?_⟩
    obtain ⟨q1, ⟨e1x, e1f⟩, e1d⟩ := W12.f1.same hq_in
    obtain ⟨q2, ⟨e2x, e2f⟩, e2d⟩ := W12.f2.same hq_in
    refine ⟨_, rfl, one, e1x, _, rfl, e1f, rfl, _, rfl, one, sortD bs, .ref two, some (sortD cs), rfl, ⟨q1, ⟨e1x, e1f⟩, e1d⟩, alls, by omega, .fil rfl ⟨q2, ⟨e2x, e2f⟩, e2d⟩ allt, fun H13 s13 => ?_⟩
    have W13 := W12.same s13
    refine ⟨_, rfl, _, rfl, bin_way gb gc W13 gA fun H14 b14 s14 fb14 => ?_⟩
    rw [eA] at fb14
    have W14 := W13.same s14
    obtain ⟨p14, ⟨dx14, fa14⟩, dd14⟩ := fb14
    obtain ⟨q3, ⟨e3x, e3f⟩, e3d⟩ := W14.f2.same hq_in
    refine ⟨b14, dx14, _, rfl, fa14, rfl, _, rfl, b14, sortD (rAndB bs cs), .ref two, some (sortD cs), rfl, ⟨p14, ⟨dx14, fa14⟩, dd14⟩, rball, lA, .fil rfl ⟨q3, ⟨e3x, e3f⟩, e3d⟩ allt, fun H15 s15 => ?_⟩
    have W15 := W14.same s15
    obtain ⟨q4, ⟨e4x, e4f⟩, e4d⟩ := W15.f1.same hq_in
    refine ⟨_, rfl, one, e4x, _, rfl, e4f, rfl, _, rfl, one, sortD bs, .ref one, some (sortD bs), rfl, ⟨q4, ⟨e4x, e4f⟩, e4d⟩, alls, by omega, .fil rfl ⟨q4, ⟨e4x, e4f⟩, e4d⟩ alls, fun H16 s16 => ?_⟩
    have W16 := W15.same s16
    rw [show partD (sortD bs) (some (sortD cs)) = (sortD (rSubB bs cs)).isEmpty from part_sub, show partD (sortD (rAndB bs cs)) (some (sortD cs)) = true from part_and, show partD (sortD bs) (some (sortD bs)) = true from part_self alls]
    refine ⟨by show 5 ≤ sizeLine; decide, fun t nt => ?_⟩
    have sT := (same_upd (o := .lst [.ref p1, .ref p2, .bl (sortD (rSubB bs cs)).isEmpty, .bl true, .bl true]) nt)
    have W17 := W16.same sT
    have d1' := dp_same (((((s12.trans s13).trans s14).trans s15).trans s16).trans sT) _ _ d1
    have d2' := dp_same ((((s13.trans s14).trans s15).trans s16).trans sT) _ _ d2
    have e17 : EB d G10 (upd H16 t (.lst [.ref p1, .ref p2, .bl (sortD (rSubB bs cs)).isEmpty, .bl true, .bl true])) := EB.same ((((((s11.trans s12).trans s13).trans s14).trans s15).trans s16).trans sT)
    have att : upd H16 t (.lst [.ref p1, .ref p2, .bl (sortD (rSubB bs cs)).isEmpty, .bl true, .bl true]) t = some (.lst [.ref p1, .ref p2, .bl (sortD (rSubB bs cs)).isEmpty, .bl true, .bl true]) := upd_same
    generalize upd H16 t (.lst [.ref p1, .ref p2, .bl (sortD (rSubB bs cs)).isEmpty, .bl true, .bl true]) = G17 at W17 d1' d2' e17 att
    have may : MayShow (.list [.tuple (sortD (rAndB bs cs)), .tuple (sortD (rSubB bs cs)), .bool (sortD (rSubB bs cs)).isEmpty, .bool true, .bool true]) := by
      refine (shw_lst (n := 5) (m := 21000) (k := 2) (ds := [.tuple (sortD (rAndB bs cs)), .tuple (sortD (rSubB bs cs)), .bool (sortD (rSubB bs cs)).isEmpty, .bool true, .bool true]) (fun e he => ?_) (Nat.le_refl 5)).may' (by decide) (by decide)
      simp only [List.mem_cons, List.not_mem_nil, or_false] at he
      rcases he with rfl | rfl | rfl | rfl | rfl
      · exact shw_bars rball lA
      · exact shw_bars raall lS
      · exact (shw_bool _).mono (by decide) (by decide)
      · exact (shw_bool _).mono (by decide) (by decide)
      · exact (shw_bool _).mono (by decide) (by decide)
    refine ⟨_, rfl, _, .list [.tuple (sortD (rAndB bs cs)), .tuple (sortD (rSubB bs cs)), .bool (sortD (rSubB bs cs)).isEmpty, .bool true, .bool true], rfl, .lst (SqL.of att) (.cons d1' (.cons d2' (.cons (.bl _) (.cons (.bl _) (.cons (.bl _) .nil))))), may, ?_⟩
    have rb17 := e17.hq _ _ rbq10
    have rbd17 := dpAll_same e17.hq _ _ rbdd10
    have ra17 := e17.hq _ _ raq
    have rad17 := dpAll_same e17.hq _ _ radd
    refine ⟨_, rfl, rb, zb, rfl, .inl ⟨SqL.of (hq_in _ _ rb17), fun a18 n18 => ?_⟩⟩
    have s18 := same_upd (o := .tup zb) n18
    refine ⟨_, rfl, ra, za, rfl, .inl ⟨SqL.of (s18 _ _ (hq_in _ _ ra17)), fun a19 n19 => ?_⟩⟩
    have s19 := same_upd (o := .tup za) n19
    refine ⟨_, rfl, by show 0 ≤ sizeLine; exact Nat.zero_le _, fun a20 n20 => ?_⟩
    have s20 := same_upd (o := .lst []) n20
    have s18' := (s18.trans s19).trans s20
    refine ⟨.list (sortD (rSubB bs cs)), .list [], .lst (SqL.of (s18' _ _ (hq_in _ _ ra17))) (dpAll_same (hq_in.trans s18') _ _ rad17), .lst (SqL.of upd_same) .nil, plain_all raall, rfl, ?_, ?_⟩
    · have := depth_all raall
      simp only [PyData.depth]
      omega
    rw [if_neg Bool.false_ne_true, eqv_nilD]
    refine ⟨by show 5 ≤ sizeLine; decide, fun a21 n21 => ?_⟩
    have s21 := same_upd (o := .lst [.ref a18, .ref a19, .bl (sortD (rSubB bs cs)).isEmpty, .bl true, .bl true]) n21
    have W21 := W17.same (s18'.trans s21)
    have t18 := SqT.of (K := K) (((s19.trans s20).trans s21) _ _ (upd_same (H := G17) (a := a18) (o := HO.tup zb)))
    have t19 := SqT.of (K := K) ((s20.trans s21) _ _ (upd_same (H := upd G17 a18 (.tup zb)) (a := a19) (o := HO.tup za)))
    have e21 := (EB.same (d := d) (s18'.trans s21))
    refine ⟨_, .list [.tuple (sortD (rAndB bs cs)), .tuple (sortD (rSubB bs cs)), .bool (sortD (rSubB bs cs)).isEmpty, .bool true, .bool true], rfl, .lst (SqL.of upd_same) (.cons (.tup t18 (dpAll_same (hq_in.trans (s18'.trans s21)) _ _ rbd17)) (.cons (.tup t19 (dpAll_same (hq_in.trans (s18'.trans s21)) _ _ rad17)) (.cons (.bl _) (.cons (.bl _) (.cons (.bl _) .nil))))), may, ?_⟩
    generalize (PyData.list [PyData.tuple (sortD (rAndB bs cs)), PyData.tuple (sortD (rSubB bs cs)), PyData.bool (sortD (rSubB bs cs)).isEmpty, PyData.bool true, PyData.bool true]).shown = S
    refine ⟨rfl, false, by simp, ite2 (fun h => by cases h) (fun _ => ?_)⟩
    exact qB _ d l ol one two r xs ys zr bs cs _ _ _ _ _ H _ gb gc lb W21 (e21.hq _ _ (e17.hq _ _ rq10)) (dpAll_same (e17.hq.trans e21.hq) _ _ rdd10) q
end
end LR
set_option Elab.async false
set_option linter.all false
set_option maxRecDepth 100000
set_option maxHeartbeats 4000000
namespace LR
open PySem PySem.Spec PyProof.Rows L2 CG SN KD OW LamX
open PySem.W (kitOne Frag exmOne findIn keepIn codeIn excIn subIn typeIn)
/-! ### bars and a list that grows -/
theorem sqT_off {K : Frag} {D a : Addr} {xs acc : List V} {H : Hp} (e : H D = some (.lst acc)) (h : SqT K H a xs) : SqT K (Hid D H) a xs := by
  rcases h with (h | ⟨o, h⟩) | h
  · exact .inl (.inl (hid_of (fun q => by rw [q, e] at h; cases h) h))
  · exact .inl (.inr ⟨o, hid_of (fun q => by rw [q, e] at h; cases h) h⟩)
  · exact .inr h
theorem bars_off {K : Frag} {D : Addr} {acc : List V} {H : Hp} (hd : H D = some (.lst acc)) : ∀ {xs : List V} {bs : List PyData}, DpAll K H xs bs → (∀ b ∈ bs, barB b = true) → DpAll K (Hid D H) xs bs
  | _, [], h, _ => by cases h; exact .nil
  | _, b :: bs, h, ab => by
    cases h with
    | cons h1 h2 =>
      refine .cons ?_ (bars_off hd h2 fun e he => ab e (List.mem_cons_of_mem _ he))
      obtain ⟨h, o, i, n, rfl⟩ := bar_shape (ab b List.mem_cons_self)
      cases h1 with
      | tup q dd => exact .tup (sqT_off hd q) (atoms_any dd)
theorem lc_bars {K : Frag} {J : It} {n : Nat} {G : Hp → Prop} {Y : Nat → Hp → V → Hp → Prop} (w : Walk J n G Y) {tt : TT} {te : TE} {k : Nat} {σ : L2.St} {H1 : Hp} {D d : Addr} {Qd : Hp → Prop} (hn : n ≤ 1000) (nD : H1 D = none) (hd : DiceAt H1 d)
    (hw : ∀ x, wipe ((wipe σ [k]).set k (some x)) [k] = wipe σ [k]) (hG : ∀ H', SB d H1 H' → DiceAt H' d → G H')
    (hs : ∀ i x H' H'', i < n → SB d H1 H' → DiceAt H' d → Y i H' x H'' → H'' = H' ∧ (∀ R : Bool → Hp → Prop, (∀ b H3, SB d H' H3 → DiceAt H3 d → R b H3) → tt ((wipe σ [k]).set k (some x)) H' R) ∧
      (∀ H3, SB d H' H3 → DiceAt H3 d → ∀ R : VK, (∀ y e H4, SB d H3 H4 → DiceAt H4 d → barB e = true → Dp K (Hid d H4) y e → R y H4) → te ((wipe σ [k]).set k (some x)) H3 R))
    (hq : ∀ H' acc es, SB d H1 H' → DiceAt H' d → H' D = some (.lst acc) → DpAll K (Hid d H') acc es → (∀ e ∈ es, barB e = true) → es.length ≤ n → Qd H') :
    ∃ W : Nat → Nat → Hp → Prop, (∃ m, W 0 m (upd H1 D (.lst []))) ∧ ∀ i m H, W i m H →
      (J.stop i H ∧ Qd H) ∨ (J.go i H ∧ ∃ Nx : Hp → Prop, (∀ H', Nx H' → ∃ m', m' < m ∧ W (i + 1) m' H') ∧ ∀ x H', J.yld i H x H' → gName k x (wipe σ [k]) H' fun σ2 H2 => wipe σ2 [k] = wipe σ [k] ∧ tt σ2 H2 fun b H3 =>
        if b = true then te σ2 H3 fun y H4 => ∃ acc, H4 D = some (.lst acc) ∧ acc.length < sizeLine ∧ Nx (upd H4 D (.lst (acc ++ [y]))) else Nx H3) := by
  have nd : D ≠ d := hd.ne nD
  refine lc_it w (fun i H' => SB d H1 H' ∧ DiceAt H' d ∧ ∃ acc es, H' D = some (.lst acc) ∧ DpAll K (Hid d H') acc es ∧ (∀ e ∈ es, barB e = true) ∧ es.length ≤ i)
    ⟨SB.of (same_upd nD), hd.keep (same_upd nD), [], [], upd_same, .nil, (fun _ h => nomatch h), Nat.le_refl _⟩ (fun i H' _ z => hG H' z.1 z.2.1) ?_ (fun H' ⟨a, b, acc, es, e, f, g, h⟩ => hq H' acc es a b e f g h)
  rintro i x H' H'' hi ⟨sb, da, acc, es, at', dd, ab, le⟩ hy
  obtain ⟨rfl, ht, he⟩ := hs i x H' H'' hi sb da hy
  refine ⟨hw x, ht _ fun b H3 s3 d3 => ?_⟩
  have at3 := s3 _ _ nd at'
  cases b with
  | false =>
    rw [if_neg (by decide)]
    exact ⟨sb.trans s3, d3, acc, es, at3, dpAll_same s3.hid _ _ dd, ab, by omega⟩
  | true =>
    rw [if_pos rfl]
    refine he H3 s3 d3 _ fun y e H4 s4 d4 be dy => ⟨acc, s4 _ _ nd at3, ?_, ?_, d4.upd nd, acc ++ [y], es ++ [e], upd_same, ?_, ?_, ?_⟩
    · rw [dpAll_len dd]
      exact Nat.lt_of_le_of_lt (show es.length ≤ 1000 by omega) (by decide)
    · exact SB.upd_new nD ((sb.trans s3).trans s4)
    · have at4 : Hid d H4 D = some (.lst acc) := hid_of nd (s4 _ _ nd at3)
      have all4 : DpAll K (Hid d H4) (acc ++ [y]) (es ++ [e]) := dpAll_app (dpAll_same (s3.trans s4).hid _ _ dd) (.cons dy .nil)
      refine dpAll_same (fun b o z => ?_) _ _ (bars_off at4 all4 fun z hz => ?_)
      · obtain ⟨z1, z2⟩ := hid_some z
        obtain ⟨z3, z4⟩ := hid_some z2
        exact hid_of z3 (by rw [upd_ne z1]; exact z4)
      · rcases List.mem_append.mp hz with h | h
        · exact ab z h
        · rw [List.mem_singleton.mp h]; exact be
    · intro z hz
      rcases List.mem_append.mp hz with h | h
      · exact ab z h
      · rw [List.mem_singleton.mp h]; exact be
    · rw [List.length_append]
      exact Nat.succ_le_succ le
/-! ### answers as data -/
def ansS (ds : List PyData) : PyData := if goodB ds = true then .tuple (sortD ds) else .str "filter"
def ansD : Option (List PyData) → PyData | some ds => ansS ds | none => .str "filter"
theorem ansS_yes {ds : List PyData} (g : goodB ds = true) : ansD (some ds) = .tuple (sortD ds) := by show ansS ds = _; unfold ansS; rw [if_pos g]
theorem ansS_no {ds : List PyData} (g : goodB ds = false) : ansD (some ds) = .str "filter" := by show ansS ds = _; unfold ansS; rw [g]; rfl
theorem ans_dp {K : Frag} {H : Hp} {v : V} {o : Option (List PyData)} (h : AnsAt K H v o) : Dp K H v (ansD o) := by
  rcases h with ⟨ds, p, rfl, g, rfl, dd⟩ | ⟨g, rfl⟩
  · rw [ansS_yes g]
    exact dd
  · cases o with
    | none => exact .str _
    | some ds =>
      rw [ansS_no g]
      exact .str _
theorem ans_may (o : Option (List PyData)) : MayShow (ansD o) := by
  have f : MayShow (.str "filter") := ⟨rfl, rfl, by decide +kernel, by decide +kernel⟩
  cases o with
  | none => exact f
  | some ds =>
    cases g : goodB ds with
    | true =>
      rw [ansS_yes g]
      exact (shw_good (by rw [goodB_sort]; exact g)).may (by decide) (by decide)
    | false =>
      rw [ansS_no g]
      exact f
theorem dpAll_perm {K : Frag} {H : Hp} {xs zs : List V} {ds : List PyData} (h : DpAll K H xs ds) (p : zs.Perm xs) : ∃ es, DpAll K H zs es ∧ es.Perm ds := by
  induction p generalizing ds with
  | nil => cases h; exact ⟨[], .nil, .refl _⟩
  | cons x p ih =>
    cases h with
    | cons a t =>
      obtain ⟨es, e1, e2⟩ := ih t
      exact ⟨_ :: es, .cons a e1, e2.cons _⟩
  | swap x y l =>
    cases h with
    | cons a t =>
      cases t with
      | cons b t => exact ⟨_, .cons b (.cons a t), .swap _ _ _⟩
  | trans p1 p2 ih1 ih2 =>
    obtain ⟨es, e1, e2⟩ := ih2 h
    obtain ⟨fs, f1, f2⟩ := ih1 e1
    exact ⟨fs, f1, f2.trans e2⟩
theorem dpAll_split {K : Frag} {H : Hp} : ∀ {zs ws : List V} {es : List PyData}, DpAll K H (zs ++ ws) es → ∃ a b, es = a ++ b ∧ DpAll K H zs a ∧ DpAll K H ws b
  | [], ws, es, h => ⟨[], es, rfl, .nil, h⟩
  | z :: zs, ws, es, h => by
    cases h with
    | cons a t =>
      obtain ⟨p, q, rfl, h1, h2⟩ := dpAll_split t
      exact ⟨_ :: p, q, rfl, .cons a h1, h2⟩
end LR
set_option Elab.async false
set_option linter.all false
set_option maxRecDepth 100000
set_option maxHeartbeats 4000000
namespace LR
open PySem PySem.Spec PyProof.Rows L2 CG SN KD OW LamX
open PySem.W (kitOne Frag exmOne findIn keepIn codeIn excIn subIn typeIn)
/-! ### sorted(set(bars)) -/
theorem sset_of {P : Program} {w : World} {K : Frag} {H : Hp} {a : Addr} {xs : List V} {bs : List PyData} {Q : VK} (hq : SqL K H a xs ∨ SqT K H a xs) (hd : DpAll K H xs bs) (allb : ∀ d ∈ bs, barB d = true) (len : bs.length ≤ 76)
    (q : ∀ l H' zs es, H l = none → Same H H' → H' l = some (.lst zs) → DpAll K H' zs es → es.Nodup → (∀ e ∈ es, e ∈ bs) → Q (.ref l) H') : rSetN K P w [.ref a] H (fun x H1 => rSortedN K P w [x] H1 Q) := by
  obtain ⟨ks, k1, k2, k3⟩ := keys_of hd allb
  have kd := data_keys k2 allb
  have kl : ks.length = bs.length := by have z := congrArg List.length k2; rw [List.length_map, List.length_map] at z; exact z
  refine ⟨a, ks, rfl, by rw [k1]; exact hq, k3, by omega, fun b R nb nd sub cov => ?_⟩
  have s1 : Same H (upd H b (SackO P w b R)) := same_upd nb
  have inB : ∀ e ∈ R, e.2.data ∈ bs ∧ e.2 = barKey e.2.data := fun e he => by
    have m : e.2 ∈ bs.map barKey := by rw [← k2]; exact List.mem_map.mpr ⟨e, sub e he, rfl⟩
    obtain ⟨d, hd1, hd2⟩ := List.mem_map.mp m
    have z := (barKey_data (allb d hd1)).1
    rw [hd2] at z
    exact ⟨by rw [z]; exact hd1, by rw [z, hd2]⟩
  refine ⟨b, R, rfl, upd_same, fun e he => ⟨dp_same s1 _ _ (k3 e (sub e he)).1, (k3 e (sub e he)).2⟩, fun e he => (bar_depth (allb _ (inB e he).1)).1, fun R1 p1 => ?_, fun R1 p p1 np => ?_⟩
  · have ab : ∀ d ∈ R1.map (fun e => e.2.data), barB d = true := fun d hd => by
      obtain ⟨e, he, rfl⟩ := List.mem_map.mp hd
      exact allb _ (inB e (p1.mem_iff.mp he)).1
    exact bars_sort ab
  · have pm : (R1.mergeSort keyLe).Perm R := (List.mergeSort_perm R1 _).trans p1
    have np' : H p = none := by
      cases z : H p with
      | none => rfl
      | some o => cases (s1 _ _ z).symm.trans np
    have s2 := s1.trans (same_upd (o := .lst ((R1.mergeSort keyLe).map fun e => V.ref e.1)) np)
    refine q p _ _ ((R1.mergeSort keyLe).map fun e => e.2.data) np' s2 upd_same (dpAll_of fun e he => ?_) ?_ fun d hd => ?_
    · have he2 := sub e (pm.mem_iff.mp he)
      exact ⟨dp_same s2 _ _ (k3 e he2).1, (k3 e he2).2⟩
    · have n2 : ((R1.mergeSort keyLe).map (·.2)).Nodup := ((pm.map (·.2)).nodup_iff).mpr nd
      refine List.pairwise_map.mpr (List.Pairwise.imp_of_mem (fun {x y} hx hy n e => n ?_) (List.pairwise_map.mp n2))
      rw [(inB x (pm.mem_iff.mp hx)).2, (inB y (pm.mem_iff.mp hy)).2, e]
    · obtain ⟨e, he, rfl⟩ := List.mem_map.mp hd
      exact (inB e (pm.mem_iff.mp he)).1
abbrev NRi : List Str := ["_law_dice_here", "_law_bars", "_law_turn", "_law_at", "_law_value", "_law_some_here", "_law_less", "_law_others", "_law_bar_here"]
theorem scRi : FnScope NRi ["_law_dice_here"] (defScope sRight) := ⟨rfl, rfl, rfl, by decide +kernel, rfl, by decide +kernel, by decide +kernel⟩
abbrev XRi (P : Program) (w : World) (K : Frag) (mg : Str → Option Value) (base : Heap) (f : Addr) (cdv : Value) (A : Around) (outer : List Env) (s : Shared) (H : Hp) (E : XK) : Cx :=
  (cxOf CX0 P w K mg base NRi "_law_right" (defScope sRight) f cdv A outer s H E).nox
def spRight (T : List (Addr × Str)) : Sp := fun vs H Q _ => ∃ d : Addr, vs = [.ref d] ∧ DiceAt H d ∧ Tabs T H ∧ ∀ H', DiceAt H' d → Tabs T H' → EB d H H' → Q (.bl true) H'
structure Lib2 (P : Program) (w : World) (K : Frag) (mg : Str → Option Value) (base : Heap) (CF : Addr) (T : List (Addr × Str)) : Prop where
  told : Has K mg "_law_told_right" ["_law_dice_here", "_law_bars", "_law_made"] fun f fd => FnG P w K mg base CX0 9 f fd ["_law_dice_here", "_law_bars", "_law_made"] (spToldR K CF)
  pair : Has K mg "_law_pair_right" ["_law_dice_here", "_law_bars", "_law_others"] fun f fd => FnG P w K mg base CX0 11 f fd ["_law_dice_here", "_law_bars", "_law_others"] (spPair K T)
section
variable {P : Program} {w : World} {K : Frag} {mg : Str → Option Value} {base : Heap} {CF cI cO : Addr} {T : List (Addr × Str)} {f : Addr} {cdv : Value} {A : Around} {outer : List Env} {s : Shared} {H0 : Hp} {E : XK}
/-- two filters -/
theorem right_E (C : Cm P w K mg base CF cI cO) (L : Lib P w K mg base CF cI) (L2' : Lib2 P w K mg base CF T) (hg : A.guards = some []) (hr : Room 11 (A.deeper (envOfC "_law_right" (defScope sRight) s.heap.objs.size f cdv))) :
    ∃ t, PSs (XRi P w K mg base f cdv A outer s H0 E) ((defBody sRight).drop 4) t ∧
      ∀ (D : Ends) (d l : Addr) (xs : List V) (bs : List PyData) (x2 x3 x4 x5 x6 x7 x8 : Option V) (Hs H : Hp), DiceAt Hs d → Tabs T Hs → DiceAt H d → SB d Hs H → H l = some (.lst xs) → l ≠ d → DpAll K (Hid d H) xs bs → (∀ b ∈ bs, barB b = true) → bs.Nodup → bs.length ≤ 70 →
        (∀ H', DiceAt H' d → Tabs T H' → EB d Hs H' → D.rt (.bl true) H') → t D [some (.ref d), some (.ref l), x2, x3, x4, x5, x6, x7, x8] H := by
  obtain ⟨fm, dm, MK, GM, bM⟩ := C.make
  have Sy := C.sy
  obtain ⟨fR, dR, GR, gR, kR, bR⟩ := L.roll
  obtain ⟨fB, dB, GB, gB, kB, bB⟩ := L.bar
  obtain ⟨fS, dS, GS, gS, kS, bS⟩ := L.some_
  obtain ⟨fT, dT, GT, gT, kT, bT⟩ := L2'.told
  obtain ⟨fP, dP, GP, gP, kP, bP⟩ := L2'.pair
  have hr1 : Room 1 _ := hr.mono (by decide)
  have hr2 : Room 2 _ := hr.mono (by decide)
  have hr3 : Room 3 _ := hr.mono (by decide)
  have hr7 : Room 7 _ := hr.mono (by decide)
  have hr9 : Room 9 _ := hr.mono (by decide)
  refine ⟨_, pss_cons (ps_set (i := 6) scRi.nd rfl (Or.inl rfl) (pe_slice sl_list (pv 1) po_none (po_some pe_int)))
    (pss_cons (ps_set (i := 7) scRi.nd rfl (Or.inl rfl) (pe_op op_cat (pe_lc (own := [("_law_turn", 2)]) (g := gName 2) (tt := tYes) rfl scRi.nd (pi_range1 rfl Sy.range (pa_cons (pe_call GR hr1 rfl gR kR bR .nil pass0 (pa_cons (pv 0) (pa_cons pe_int pa_nil))) pa_nil))
          (blkOk_by (N := NRi) (sc := defScope sRight) (by decide +kernel)) (fun _ _ _ _ _ => pg_name (i := 2) scRi.nd rfl (Or.inl rfl)) (fun _ _ _ _ _ => pts_nil) (fun _ _ _ _ _ => pe_call GB hr3 rfl gB kB bB .nil pass0 (pa_cons (pv 0) pa_nil)))
        (pe_lc (own := [("_law_bar_here", 8)]) (g := gName 8) rfl scRi.nd (pi_list (pv 6))
          (blkOk_by (N := NRi) (sc := defScope sRight) (by decide +kernel)) (fun _ _ _ _ _ => pg_name (i := 8) scRi.nd rfl (Or.inl rfl)) (fun _ _ _ _ _ => pts_one (pt_cmpR op_eq (pe_call GR hr1 rfl gR kR bR .nil pass0 (pa_cons (pv 0) (pa_cons pe_int pa_nil))) pe_int (nomark _))) (fun _ _ _ _ _ => pv 8))))
    (pss_cons (ps_set (i := 7) scRi.nd rfl (Or.inl rfl) (pe_call GS hr2 rfl gS kS bS .nil pass0 (pa_cons (pv 0) (pa_cons (pe_callB (cr_sortedN rfl hr.units) (by rfl) Sy.sorted (by decide +kernel) (pa_cons (pe_callTy (cr_setN rfl hr.units) (by rfl) Sy.set PyProof.Rows.boot_set (pa_cons (pv 7) pa_nil)) pa_nil)) (pa_cons pe_int pa_nil)))))
    (pss_one (ps_ret (pe_and (pe_callG GT hr9 hg rfl gT kT bT pass0 (pa_cons (pv 0) (pa_cons (pv 6) (pa_cons (pe_make MK GM hr7 rfl C.fc.g bM .nil passF (pa_cons (pe_callTy call_tuple_of (by rfl) Sy.tuple PyProof.Rows.boot_tuple (pa_cons (pv 6) pa_nil)) pa_nil)) pa_nil))))
      (pe_one (pe_callG GP hr hg rfl gP kP bP pass0 (pa_cons (pv 0) (pa_cons (pv 6) (pa_cons (pv 7) pa_nil)))))))))), ?_⟩
  intro D d l xs bs x2 x3 x4 x5 x6 x7 x8 Hs H ds ts hd sb hl ld hb allb nd len q
  refine ⟨_, rfl, _, rfl, l, xs, rfl, SqL.of hl, fun a1 n1 => ?_⟩
  rw [show cutV xs none (some 45) = xs.take 45 from cut_take xs 45]
  obtain ⟨G1, h1⟩ : ∃ G, G = upd H a1 (.lst (xs.take 45)) := ⟨_, rfl⟩
  rw [← h1]
  have s1 : Same H G1 := by rw [h1]; exact same_upd n1
  have d1 := hd.keep s1
  have a1d := hd.ne n1
  have at1 : G1 a1 = some (.lst (xs.take 45)) := by rw [h1]; exact upd_same
  have sb1 := sb.trans (SB.of s1)
  have hb1 : DpAll K (Hid d G1) (xs.take 45) (bs.take 45) := dpAll_take 45 (dpAll_same (SB.of s1).hid _ _ hb)
  have ab1 : ∀ b ∈ bs.take 45, barB b = true := fun b hb => allb b (List.mem_of_mem_take hb)
  have l1 : (bs.take 45).length ≤ 45 := List.length_take_le _ _
  have nd1 : (bs.take 45).Nodup := nd.sublist (List.take_sublist _ _)
  have gb1 : goodB (bs.take 45) = true := goodB_iff.mpr ⟨by omega, ab1, nd1⟩
  have lx1 := dpAll_len hb1
  refine ⟨_, rfl, d, 30, rfl, d1, by decide, by decide, fun r G2 r0 r1 d2 b2 => ?_⟩
  obtain ⟨n, rfl⟩ := Int.eq_ofNat_of_zero_le r0
  refine ⟨_, rfl, by omega, by omega, fun D nD => ?_⟩
  have D1 := d2.ne nD
  refine lc_bars (K := K) walk_range (d := d) (show ((n : Int)).toNat ≤ 1000 by omega) nD d2 (fun _ => rfl) (fun _ _ _ => True.intro) ?_ ?_
  · rintro i x H' H'' hi s' d' ⟨rfl, rfl⟩
    refine ⟨rfl, fun R h => h _ _ SB.refl d', fun H3 s3 d3 R h => ?_⟩
    exact ⟨_, rfl, d, rfl, d3, fun p H4 e d4 s4 be de => h _ e H4 s4 d4 be de⟩
  intro G3 acc es s3 d3 at3 da ba le
  have s13 : SB d G1 G3 := (SB.but b2).trans s3
  have at13 := s13 _ _ a1d at1
  refine ⟨_, rfl, a1, rfl, ⟨_, SqL.of at13⟩, fun D2 nD2 => ?_⟩
  have D2d := d3.ne nD2
  have hb3 : DpAll K (Hid d G3) (xs.take 45) (bs.take 45) := dpAll_same s13.hid _ _ hb1
  refine lc_bars (K := K) (walk_list (xs := xs.take 45)) (d := d) (show (xs.take 45).length ≤ 1000 by omega) nD2 d3 (fun _ => rfl) (fun H' s' _ => SqL.of (s' _ _ a1d at13)) ?_ ?_
  · rintro i x H' H'' hi s' d' ⟨rfl, hxi⟩
    obtain ⟨e, he, dz⟩ := dpAll_at hb3 i x hxi
    have be := ab1 e (List.mem_of_getElem? he)
    refine ⟨rfl, fun R h => ?_, fun H3 s3 d3 R h => ⟨_, rfl, h x e H3 SB.refl d3 be (dp_same (s'.trans s3).hid _ _ dz)⟩⟩
    exact ⟨_, rfl, d, 2, rfl, d', by decide, by decide, fun r H3 r0 r1 d3 b3 => ⟨rfl, _, rfl, h _ H3 (SB.but b3) d3⟩⟩
  intro G4 acc2 es2 s4 d4 at4 da2 ba2 le2
  have s14 := s13.trans s4
  have at3' := s4 _ _ D1 at3
  have da' := dpAll_same s4.hid _ _ da
  have la := dpAll_len da
  have la2 := dpAll_len da2
  have n30 : es.length ≤ 29 := by omega
  refine ⟨D, D2, acc, acc2, rfl, rfl, at3', at4, Nat.le_trans (show acc.length + acc2.length ≤ 100 by omega) (by decide), fun a5 n5 => ?_⟩
  have a5d := d4.ne n5
  obtain ⟨G5, h5⟩ : ∃ G, G = upd G4 a5 (.lst (acc ++ acc2)) := ⟨_, rfl⟩
  rw [← h5]
  have s5 : Same G4 G5 := by rw [h5]; exact same_upd n5
  have at5 : G5 a5 = some (.lst (acc ++ acc2)) := by rw [h5]; exact upd_same
  have d5 := d4.keep s5
  have all5 : ∀ e ∈ es ++ es2, barB e = true := fun e he => by
    rcases List.mem_append.mp he with h | h
    · exact ba e h
    · exact ba2 e h
  have d5' : DpAll K G5 (acc ++ acc2) (es ++ es2) := dpAll_same (hid_in.trans s5) _ _ (dpAll_app da' da2)
  refine ⟨_, rfl, _, rfl, ?_⟩
  dsimp only [tNil]
  refine sset_of (.inl (SqL.of at5)) d5' all5 (by rw [List.length_append]; omega) fun a6 G6 zs fs n6 s6 at6 d6 nf6 sub6 => ?_
  have a6d := d5.ne n6
  have dd6 := d5.keep s6
  have lz := dpAll_len d6
  have f76 : fs.length ≤ (es ++ es2).length := @nodup_len PyData (fun a b => Classical.propDecidable (a = b)) _ _ nf6 sub6
  rw [List.length_append] at f76
  refine ⟨d, a6, zs, 60, rfl, dd6, at6, a6d, (by omega), (by decide), fun p G7 ws rest np d7 s7 at7 pm lw => ?_⟩
  obtain ⟨gs, dg, pg⟩ := dpAll_perm d6 pm
  obtain ⟨cs, cr, rfl, dcs, _⟩ := dpAll_split dg
  have csub : ∀ e ∈ cs, barB e = true := fun e he => all5 e (sub6 e (pg.mem_iff.mp (List.mem_append_left _ he)))
  have cnd : cs.Nodup := (List.nodup_append.mp (pg.nodup_iff.mpr nf6)).1
  have cl : cs.length ≤ 60 := by
    have := dpAll_len dcs
    omega
  have gcs : goodB cs = true := goodB_iff.mpr ⟨cl, csub, cnd⟩
  obtain ⟨u1, u2, u3, eu⟩ := id dd6
  have dc7 : DpAll K (Hid d G7) ws cs := dpAll_same s7.hid _ _ (bars_off eu dcs csub)
  have pd : p ≠ d := dd6.ne np
  have s17 : SB d G1 G7 := ((s14.trans (SB.of s5)).trans (SB.of s6)).trans s7
  have at17 := s17 _ _ a1d at1
  have hb7 : DpAll K (Hid d G7) (xs.take 45) (bs.take 45) := dpAll_same s17.hid _ _ hb1
  refine ⟨_, rfl, _, rfl, _, rfl, a1, _, rfl, .inl ⟨SqL.of at17, fun a8 n8 => ?_⟩⟩
  have s8 := same_upd (o := .tup (xs.take 45)) n8
  refine mk_argR (o := some (bs.take 45)) (.yes (.tup (SqT.of upd_same) (dpAll_same (hid_in.trans s8) _ _ hb7)) (fun d hd => bar_ok (ab1 d hd)) (by omega)) (fun z e g H9 m s9 nb fb => ?_) (fun z => ?_)
  · cases e
    have s9' : Same G7 H9 := s8.trans s9
    have d9 := d7.keep s9'
    have all9 : ∀ b ∈ sortD (bs.take 45), barB b = true := fun e he => ab1 e ((sortD_perm _).mem_iff.mp he)
    have fb9 := (fb_q d9 fb all9).same hq_hid
    refine ⟨rfl, d, a1, m, _, bs.take 45, rfl, d9, s9' _ _ at17, a1d, dpAll_same (SB.of s9').hid _ _ hb7, gb1, l1, fb9, fun H10 d10 s10 => ⟨_, rfl, ite2 (fun _ => ?_) (fun h => absurd rfl h)⟩⟩
    have t10 : SB d G7 H10 := (SB.of s9').trans s10
    have u10 : SB d Hs H10 := (sb1.trans s17).trans t10
    have toQ : ∀ {zs : List V} {es : List PyData}, DpAll K (Hid d H10) zs es → DpAll K (Hq d H10) zs es := fun h => dpAll_q hid_q _ _ h
    refine ⟨_, rfl, _, rfl, _, rfl, d, a1, p, _, _, bs.take 45, cs, rfl, d10, tabs_sb ds ts u10, hq_of a1d (t10 _ _ a1d at17) (fun ps z => by cases z), hq_of pd (t10 _ _ pd at7) (fun ps z => by cases z), toQ (dpAll_same t10.hid _ _ hb7), toQ (dpAll_same t10.hid _ _ dc7), gb1, gcs, l1, fun H' d' t' e' => q H' d' t' ((EB.sb u10).trans e')⟩
  · rw [show goodO (some (bs.take 45)) = goodB (bs.take 45) from rfl, gb1] at z
    cases z
end
end LR
set_option Elab.async false
set_option linter.all false
set_option maxRecDepth 100000
set_option maxHeartbeats 4000000
namespace LR
open PySem PySem.Spec PyProof.Rows L2 CG SN KD OW LamX
open PySem.W (kitOne Frag exmOne findIn keepIn codeIn excIn subIn typeIn)
section
variable {P : Program} {w : World} {K : Frag} {mg : Str → Option Value} {base : Heap} {CF cI cO : Addr} {T : List (Addr × Str)}
theorem op_twiceK {X : Cx} (hk : X.K = K) : OpR X (binaryOp .Mult) (rTwice K) := by subst hk; exact op_twice
theorem twice_of {H : Hp} {a : Addr} {x y : V} {xs : List V} {Q : VK} (ex : x = .ref a) (ey : y = .int 2) (ha : SqT K H a xs) (len : xs.length ≤ 1000) (q : ∀ p H', Same H H' → SqT K H' p (xs ++ xs) → Q (.ref p) H') : rTwice K x y H Q :=
  ⟨a, xs, ex, ey, ha, len, fun e => q a H (Same.rfl' H) (by rw [e, List.append_nil]; rw [e] at ha; exact ha), fun _ p np => q p _ (same_upd np) (SqT.of upd_same)⟩
theorem bar_ref {H : Hp} {v : V} {e : PyData} (h : Dp K H v e) (b : barB e = true) : ∃ r, v = .ref r := by
  obtain ⟨_, _, _, _, rfl⟩ := bar_shape b
  cases h
  exact ⟨_, rfl⟩
theorem ok_right {f : Addr} {fd : FuncData} (F : Fun K "_law_right" "_law_right" sRight f fd) (C : Cm P w K mg base CF cI cO) (L : Lib P w K mg base CF cI) (L2' : Lib2 P w K mg base CF T) : FnG P w K mg base CX0 12 f fd ["_law_dice_here"] (spRight T) := by
  have Sy := C.sy
  obtain ⟨fR, dR, GR, gR, kR, bR⟩ := L.roll
  obtain ⟨fB, dB, GB, gB, kB, bB⟩ := L.bar
  obtain ⟨fS, dS, GS, gS, kS, bS⟩ := L.some_
  obtain ⟨fP, dP, GP, gP, kP, bP⟩ := L.pick
  obtain ⟨fN, dN, GN, gN, kN, bN⟩ := L.bent
  obtain ⟨fM, dM, GM, gM, kM, bM⟩ := L.made
  obtain ⟨fD, dD, GD, gD, kD, bD⟩ := L.due
  refine fnG_of F scRi (fun vs H Q E h => ?_) (fun cdv A outer s H vs Q E hr hg h => ?_)
  · obtain ⟨d, rfl, _⟩ := h
    rfl
  · obtain ⟨d, rfl, hd, hT, q⟩ := h
    obtain ⟨tE, hE, qE⟩ := right_E C L L2' hg hr (P := P) (w := w) (f := f) (s := s) (outer := outer) (H0 := H) (E := E)
    have hr1 : Room 1 _ := hr.mono (by decide)
    have hr2 : Room 2 _ := hr.mono (by decide)
    have hr3 : Room 3 _ := hr.mono (by decide)
    have hr8 : Room 8 _ := hr.mono (by decide)
    have hu := hr.units
    refine ⟨_, PSs.nox (pss_cons (ps_setLc (i := 1) (own := [("_law_turn", 2)]) (g := gName 2) (tt := tYes) (by rfl) scRi.nd rfl rfl (sw_true rfl rfl rfl (by decide +kernel)) (pi_range1 rfl Sy.range (pa_cons (pe_call GP hr2 rfl gP kP bP .nil pass0 (pa_cons (pv 0) (pa_cons (pe_lst
            (pa_cons pe_int (pa_cons pe_int (pa_cons pe_int (pa_cons pe_int (pa_cons pe_int (pa_cons pe_int (pa_cons pe_int (pa_cons pe_int pa_nil))))))))) pa_nil))) pa_nil))
          (blkOk_by (N := NRi) (sc := defScope sRight) (by decide +kernel)) (fun _ _ _ _ _ => pg_name (i := 2) scRi.nd rfl (Or.inl rfl)) (fun _ _ _ _ _ => pts_nil) (fun _ _ _ _ _ => pe_call GB hr3 rfl gB kB bB .nil pass0 (pa_cons (pv 0) pa_nil)))
      (pss_cons (ps_set (i := 1) scRi.nd rfl (Or.inl rfl) (pe_call GS hr2 rfl gS kS bS .nil pass0 (pa_cons (pv 0) (pa_cons (pe_callB (cr_sortedN rfl hr.units) (by rfl) Sy.sorted (by decide +kernel) (pa_cons (pe_callTy (cr_setN rfl hr.units) (by rfl) Sy.set PyProof.Rows.boot_set (pa_cons (pv 1) pa_nil)) pa_nil)) (pa_cons pe_int pa_nil)))))
      (pss_cons (ps_if (pt_cmpR op_ne (pe_callB (call_reprD hg hu) (by rfl) Sy.repr PyProof.Rows.boot_repr (pa_cons (pe_call GM hr8 rfl gM kM bM .nil pass0 (pa_cons (pe_callTy call_tuple_of (by rfl) Sy.tuple PyProof.Rows.boot_tuple (pa_cons (pv 1) pa_nil)) pa_nil)) pa_nil))
          (pe_callB (call_reprD hg hu) (by rfl) Sy.repr PyProof.Rows.boot_repr (pa_cons (pe_call GD hr2 rfl gD kD bD .nil pass0 (pa_cons (pe_callTy call_tuple_of (by rfl) Sy.tuple PyProof.Rows.boot_tuple (pa_cons (pv 1) pa_nil)) pa_nil)) pa_nil)) (nomark _))
        (pss_one (ps_ret pe_bl)) pss_nil)
      (pss_cons (ps_for PassesOwn.never rfl (pi_range1 rfl Sy.range (pa_cons pe_int pa_nil)) (pg_name (i := 2) scRi.nd rfl (Or.inl rfl))
        (pss_cons (ps_set (i := 3) scRi.nd rfl (Or.inl rfl) (pe_call GR hr1 rfl gR kR bR .nil pass0 (pa_cons (pv 0) (pa_cons (pe_op op_add (pe_callB call_len (by rfl) Sy.len PySem.boot_len (pa_cons (pv 1) pa_nil)) pe_int) pa_nil))))
        (pss_cons (ps_set (i := 4) scRi.nd rfl (Or.inl rfl) (pe_op op_cat (pe_op op_cat (pe_slice sl_list (pv 1) po_none (po_some (pv 3)))
            (pe_lst (pa_cons (pe_call GN hr3 rfl gN kN bN .nil pass0 (pa_cons (pv 0) (pa_cons (pe_call GP hr2 rfl gP kP bP .nil pass0 (pa_cons (pv 0) (pa_cons (pe_op op_cat (pv 1) (pe_lst (pa_cons (pe_call GB hr3 rfl gB kB bB .nil pass0 (pa_cons (pv 0) pa_nil)) pa_nil))) pa_nil))) pa_nil))) pa_nil)))
            (pe_slice sl_list (pv 1) (po_some (pe_op op_add (pv 3) pe_int)) po_none)))
        (pss_cons (ps_set (i := 5) scRi.nd rfl (Or.inl rfl) (pe_lst (pa_cons (pe_callTy call_tuple_of (by rfl) Sy.tuple PyProof.Rows.boot_tuple (pa_cons (pv 4) pa_nil)) (pa_cons (pe_callTy call_tuple_of (by rfl) Sy.tuple PyProof.Rows.boot_tuple (pa_cons (pv 4) pa_nil)) (pa_cons (pe_callTy call_tuple_of (by rfl) Sy.tuple PyProof.Rows.boot_tuple (pa_cons (pv 4) pa_nil))
            (pa_cons (pv 4) (pa_cons pe_non (pa_cons pe_int (pa_cons pe_str (pa_cons (pe_op (op_twiceK (K := K) rfl) (pe_callTy call_tuple_of (by rfl) Sy.tuple PyProof.Rows.boot_tuple (pa_cons (pv 1) pa_nil)) pe_int) (pa_cons pe_dnewK pa_nil)))))))))))
        (pss_cons (ps_set (i := 4) scRi.nd rfl (Or.inl rfl) (pe_call GP hr2 rfl gP kP bP .nil pass0 (pa_cons (pv 0) (pa_cons (pv 5) pa_nil))))
        (pss_one (ps_if (pt_cmpR op_ne (pe_callB (call_reprD hg hu) (by rfl) Sy.repr PyProof.Rows.boot_repr (pa_cons (pe_call GM hr8 rfl gM kM bM .nil pass0 (pa_cons (pv 4) pa_nil)) pa_nil))
            (pe_callB (call_reprD hg hu) (by rfl) Sy.repr PyProof.Rows.boot_repr (pa_cons (pe_call GD hr2 rfl gD kD bD .nil pass0 (pa_cons (pv 4) pa_nil)) pa_nil)) (nomark _))
          (pss_one (ps_ret pe_bl)) pss_nil)))))))
      hE)))), ?_⟩
    refine ⟨_, rfl, by show 8 ≤ sizeLine; decide, fun a1 n1 => ?_⟩
    have s1 : Same H (upd H a1 (.lst [.int 0, .int 1, .int 2, .int 3, .int 5, .int 8, .int 40, .int 70])) := same_upd n1
    have d1 := hd.keep s1
    have a1d := hd.ne n1
    refine ⟨d, a1, _, rfl, d1, upd_same, a1d, by decide, by decide, fun v G2 hv d2 b2 => ?_⟩
    obtain ⟨n, rfl, n70⟩ : ∃ n : Nat, v = .int n ∧ n ≤ 70 := by
      simp only [List.mem_cons, List.not_mem_nil, or_false] at hv
      rcases hv with rfl | rfl | rfl | rfl | rfl | rfl | rfl | rfl
      · exact ⟨0, rfl, by decide⟩
      · exact ⟨1, rfl, by decide⟩
      · exact ⟨2, rfl, by decide⟩
      · exact ⟨3, rfl, by decide⟩
      · exact ⟨5, rfl, by decide⟩
      · exact ⟨8, rfl, by decide⟩
      · exact ⟨40, rfl, by decide⟩
      · exact ⟨70, rfl, by decide⟩
    refine ⟨_, rfl, by omega, by omega, fun D nD => ?_⟩
    have D1 := d2.ne nD
    have s2 : SB d H G2 := (SB.of s1).trans (SB.but b2)
    refine lc_bars (K := K) walk_range (d := d) (show ((n : Int)).toNat ≤ 1000 by omega) nD d2 (fun _ => rfl) (fun _ _ _ => True.intro) ?_ ?_
    · rintro i x H' H'' hi s' d' ⟨rfl, rfl⟩
      refine ⟨rfl, fun R h => h _ _ SB.refl d', fun H3 s3 d3 R h => ?_⟩
      exact ⟨_, rfl, d, rfl, d3, fun p H4 e d4 s4 be de => h _ e H4 s4 d4 be de⟩
    intro G3 acc es s3 d3 at3 da ba le
    have la := dpAll_len da
    refine ⟨_, rfl, _, rfl, ?_⟩
    dsimp only [tNil]
    refine sset_of (.inl (SqL.of at3)) (dpAll_same hid_in _ _ da) ba (by omega) fun a6 G6 zs fs n6 s6 at6 d6 nf6 sub6 => ?_
    have a6d := d3.ne n6
    have dd6 := d3.keep s6
    have lz := dpAll_len d6
    have f76 : fs.length ≤ es.length := @nodup_len PyData (fun a b => Classical.propDecidable (a = b)) _ _ nf6 sub6
    refine ⟨d, a6, zs, 99, rfl, dd6, at6, a6d, (by omega), (by decide), fun l G7 xs rest np d7 s7 at7 pm lw => ?_⟩
    obtain ⟨gs, dg, pg⟩ := dpAll_perm d6 pm
    obtain ⟨bs, cr, rfl, dcs, _⟩ := dpAll_split dg
    have allb : ∀ e ∈ bs, barB e = true := fun e he => ba e (sub6 e (pg.mem_iff.mp (List.mem_append_left _ he)))
    have nd : bs.Nodup := (List.nodup_append.mp (pg.nodup_iff.mpr nf6)).1
    have lxs := dpAll_len dcs
    have lbs : bs.length ≤ 70 := by omega
    obtain ⟨u1, u2, u3, eu⟩ := id dd6
    have hb : DpAll K (Hid d G7) xs bs := dpAll_same s7.hid _ _ (bars_off eu dcs allb)
    have ld : l ≠ d := dd6.ne np
    have sH : SB d H G7 := ((s2.trans s3).trans (SB.of s6)).trans s7
    have barsArg : ∀ {G : Hp} {r : Addr} {ys : List V} {cs : List PyData}, (∀ b ∈ cs, barB b = true) → cs.length ≤ 200 → SqT K G r ys → DpAll K G ys cs → Arg K G (.ref r) (some cs) ∧ fairO (some cs) := fun ab lc t dd =>
      ⟨.yes (.tup t dd) (fun d hd => bar_ok (ab d hd)) (by omega), fun d hd => ⟨(fine_bar (ab d hd)).pl, (fine_bar (ab d hd)).dp⟩⟩
    have hbG := dpAll_same hid_in _ _ hb
    refine ⟨_, rfl, l, xs, rfl, .inl ⟨SqL.of at7, fun a8 n8 => ?_⟩⟩
    have s8 := same_upd (o := .tup xs) n8
    obtain ⟨ar8, fa8⟩ := barsArg allb (by omega) (SqT.of (upd_same (H := G7) (a := a8) (o := HO.tup xs))) (dpAll_same s8 _ _ hbG)
    refine ⟨_, some bs, rfl, ar8, fa8, fun v9 G9 s9 an9 => ⟨_, ansD (some bs), rfl, ans_dp an9, ans_may _, ?_⟩⟩
    have s79 := s8.trans s9
    refine ⟨_, rfl, l, xs, rfl, .inl ⟨SqL.of (s79 _ _ at7), fun a10 n10 => ?_⟩⟩
    have s10 := same_upd (o := .tup xs) n10
    obtain ⟨ar10, fa10⟩ := barsArg allb (by omega) (SqT.of (upd_same (H := G9) (a := a10) (o := HO.tup xs))) (dpAll_same (s79.trans s10) _ _ hbG)
    refine ⟨_, some bs, rfl, ar10, fa10, fun v11 G11 s11 an11 => ⟨_, ansD (some bs), rfl, ans_dp an11, ans_may _, ?_⟩⟩
    have s711 := (s79.trans s10).trans s11
    generalize (ansD (some bs)).shown = S
    refine ⟨rfl, false, by simp, ite2 (fun h => by cases h) (fun _ => ?_)⟩
    have d11 := d7.keep s711
    have sH11 := sH.trans (SB.of s711)
    have at11 := s711 _ _ at7
    have hb11 := dpAll_same (SB.of (d := d) s711).hid _ _ hb
    refine ⟨_, rfl, by decide, by decide, for_range (n := 5) (fun i σ H' => ∃ v2 v3 v4 v5, σ = [some (.ref d), some (.ref l), v2, v3, v4, v5, none, none, none] ∧ DiceAt H' d ∧ SB d G11 H') ⟨_, _, _, _, rfl, d11, SB.refl⟩ ?_ ?_⟩
    · rintro i σ H' hi ⟨v2, v3, v4, v5, rfl, d', s'⟩
      have hl := s' _ _ ld at11
      have hb' := dpAll_same s'.hid _ _ hb11
      refine ⟨_, rfl, _, rfl, .ref l, _, rfl, .inl ⟨_, SqL.of hl, rfl⟩, _, _, rfl, rfl, d, _, rfl, d', (by omega), (by omega), fun r G1 r0 r1 d1 b1 => ?_⟩
      obtain ⟨j, rfl⟩ := Int.eq_ofNat_of_zero_le r0
      have t1 : SB d H' G1 := SB.but b1
      refine ⟨_, rfl, _, rfl, _, rfl, l, xs, rfl, SqL.of (t1 _ _ ld hl), fun a2 n2 => ?_⟩
      rw [cut_take]
      have a2d := d1.ne n2
      have t2 : SB d H' (upd G1 a2 (.lst (xs.take j))) := t1.trans (SB.of (same_upd n2))
      have d2 := d1.keep (same_upd (o := .lst (xs.take j)) n2)
      have at2 : upd G1 a2 (.lst (xs.take j)) a2 = some (.lst (xs.take j)) := upd_same
      generalize upd G1 a2 (.lst (xs.take j)) = G2 at t2 d2 at2
      refine ⟨_, rfl, _, rfl, _, rfl, _, rfl, d, rfl, d2, fun p G3 e3 d3 u3 be3 de3 => ?_⟩
      refine ⟨by show 1 ≤ sizeLine; decide, fun a4 n4 => ?_⟩
      have a4d := d3.ne n4
      have d4 := d3.keep (same_upd (o := .lst [.ref p]) n4)
      have u4 := u3.trans (SB.of (same_upd (o := .lst [.ref p]) n4))
      refine ⟨l, a4, xs, _, rfl, rfl, (t2.trans u4) _ _ ld hl, upd_same, Nat.le_trans (show xs.length + 1 ≤ 100 by omega) (by decide), fun a5 n5 => ?_⟩
      have a5d := d4.ne n5
      have u5 := u4.trans (SB.of (same_upd (o := .lst (xs ++ [.ref p])) n5))
      refine ⟨d, a5, _, rfl, d4.upd a5d, upd_same, a5d, (by rw [List.length_append]; show 0 < xs.length + 1; omega), (by rw [List.length_append]; show xs.length + 1 < 1000; omega), fun v G6 hv d6 b6 => ?_⟩
      have u6 := u5.trans (SB.but b6)
      have w36 : SB d G3 G6 := ((SB.of (same_upd (o := .lst [.ref p]) n4)).trans (SB.of (same_upd (o := .lst (xs ++ [.ref p])) n5))).trans (SB.but b6)
      obtain ⟨ev, dv, bv⟩ : ∃ e, Dp K (Hid d G6) v e ∧ barB e = true := by
        rcases List.mem_append.mp hv with hv | hv
        · obtain ⟨k, hk⟩ := List.mem_iff_getElem?.mp hv
          obtain ⟨e, he, de⟩ := dpAll_at (dpAll_same (t2.trans u6).hid _ _ hb') k v hk
          exact ⟨e, de, allb e (List.mem_of_getElem? he)⟩
        · rw [List.mem_singleton.mp hv]
          exact ⟨e3, dp_same w36.hid _ _ de3, be3⟩
      obtain ⟨r6, rfl⟩ := bar_ref dv bv
      refine ⟨d, r6, ev, rfl, d6, bv, dv, fun v7 G7' eu7 d7' u7 fu du => ?_⟩
      refine ⟨by show 1 ≤ sizeLine; decide, fun a8 n8 => ?_⟩
      have d8 := d7'.keep (same_upd (o := .lst [v7]) n8)
      have u8 := (u6.trans u7).trans (SB.of (same_upd (o := .lst [v7]) n8))
      have at28 := u8 _ _ a2d at2
      refine ⟨a2, a8, _, _, rfl, rfl, at28, upd_same, Nat.le_trans (show (xs.take j).length + 1 ≤ 100 by rw [List.length_take]; omega) (by decide), fun a9 n9 => ?_⟩
      have d9 := d8.keep (same_upd (o := .lst (xs.take j ++ [v7])) n9)
      have u9 := u8.trans (SB.of (same_upd (o := .lst (xs.take j ++ [v7])) n9))
      have w79 : SB d G7' (upd (upd G7' a8 (.lst [v7])) a9 (.lst (xs.take j ++ [v7]))) := SB.of ((same_upd n8).trans (same_upd n9))
      have at9 : (upd (upd G7' a8 (.lst [v7])) a9 (.lst (xs.take j ++ [v7]))) a9 = some (.lst (xs.take j ++ [v7])) := upd_same
      have a9d := d8.ne n9
      generalize upd (upd G7' a8 (.lst [v7])) a9 (.lst (xs.take j ++ [v7])) = G9' at d9 u9 w79 at9
      refine ⟨_, rfl, _, rfl, _, _, rfl, rfl, _, rfl, ?_⟩
      dsimp only [tNoPart]
      have t9 : SB d H' G9' := t2.trans u9
      refine ⟨l, xs, rfl, SqL.of (t9 _ _ ld hl), fun a10 n10 => ?_⟩
      rw [show ((j : Int) + 1) = ((j + 1 : Nat) : Int) by omega, cut_drop]
      have s10' := same_upd (o := .lst (xs.drop (j + 1))) n10
      have d10 := d9.keep s10'
      refine ⟨a9, a10, _, _, rfl, rfl, s10' _ _ at9, upd_same, Nat.le_trans (show (xs.take j ++ [v7]).length + (xs.drop (j + 1)).length ≤ 200 by rw [List.length_append, List.length_singleton, List.length_take, List.length_drop]; omega) (by decide), fun a11 n11 => ?_⟩
      have s11' := s10'.trans (same_upd (o := .lst ((xs.take j ++ [v7]) ++ xs.drop (j + 1))) n11)
      have d11' := d9.keep s11'
      have a11d := d10.ne n11
      have t11 := t9.trans (SB.of s11')
      have w11 := w79.trans (SB.of s11')
      have at11' : (upd (upd G9' a10 (.lst (xs.drop (j + 1)))) a11 (.lst ((xs.take j ++ [v7]) ++ xs.drop (j + 1)))) a11 = some (.lst ((xs.take j ++ [v7]) ++ xs.drop (j + 1))) := upd_same
      generalize hvs : (xs.take j ++ [v7]) ++ xs.drop (j + 1) = vs at at11'
      have dvs : ∀ {Z : Hp}, SB d (upd (upd G9' a10 (.lst (xs.drop (j + 1)))) a11 (.lst ((xs.take j ++ [v7]) ++ xs.drop (j + 1)))) Z → DpAll K (Hid d Z) vs ((bs.take j ++ [eu7]) ++ bs.drop (j + 1)) := fun z => by
        rw [← hvs]
        exact dpAll_app (dpAll_app (dpAll_take j (dpAll_same (t11.trans z).hid _ _ hb')) (.cons (dp_same (w11.trans z).hid _ _ du) .nil)) (dpAll_drop (j + 1) (dpAll_same (t11.trans z).hid _ _ hb'))
      have fine : ∀ e ∈ (bs.take j ++ [eu7]) ++ bs.drop (j + 1), Fine e := fun e he => by
        rcases List.mem_append.mp he with h | h
        · rcases List.mem_append.mp h with h | h
          · exact fine_bar (allb e (List.mem_of_mem_take h))
          · rw [List.mem_singleton.mp h]; exact fu
        · exact fine_bar (allb e (List.mem_of_mem_drop h))
      have lvs : ((bs.take j ++ [eu7]) ++ bs.drop (j + 1)).length ≤ 200 := by rw [List.length_append, List.length_append, List.length_singleton, List.length_take, List.length_drop]; omega
      rw [hvs] at dvs t11 w11 d11' s11'
      generalize hG12 : upd (upd G9' a10 (.lst (xs.drop (j + 1)))) a11 (.lst vs) = G12
      rw [hG12] at dvs at11' t11 w11 d11' s11'
      generalize (bs.take j ++ [eu7]) ++ bs.drop (j + 1) = es at dvs fine lvs
      -- the odd values
      refine ⟨_, rfl, a11, vs, rfl, .inl ⟨SqL.of at11', fun a12 n12 => ?_⟩⟩
      obtain ⟨Z12, z12⟩ : ∃ G, G = upd G12 a12 (.tup vs) := ⟨_, rfl⟩
      rw [← z12]
      have q12 : Same G12 Z12 := by rw [z12]; exact same_upd n12
      have m12 : Z12 a12 = some (.tup vs) := by rw [z12]; exact upd_same
      have x12 := d11'.ne n12
      have c12 := d11'.keep q12
      refine ⟨_, rfl, a11, vs, rfl, .inl ⟨SqL.of (q12 _ _ at11'), fun a13 n13 => ?_⟩⟩
      obtain ⟨Z13, z13⟩ : ∃ G, G = upd Z12 a13 (.tup vs) := ⟨_, rfl⟩
      rw [← z13]
      have q13 : Same Z12 Z13 := by rw [z13]; exact same_upd n13
      have m13 : Z13 a13 = some (.tup vs) := by rw [z13]; exact upd_same
      have x13 := c12.ne n13
      have c13 := c12.keep q13
      refine ⟨_, rfl, a11, vs, rfl, .inl ⟨SqL.of (q13 _ _ (q12 _ _ at11')), fun a14 n14 => ?_⟩⟩
      obtain ⟨Z14, z14⟩ : ∃ G, G = upd Z13 a14 (.tup vs) := ⟨_, rfl⟩
      rw [← z14]
      have q14 : Same Z13 Z14 := by rw [z14]; exact same_upd n14
      have m14 : Z14 a14 = some (.tup vs) := by rw [z14]; exact upd_same
      have x14 := c13.ne n14
      have c14 := c13.keep q14
      have q1214 := (q12.trans q13).trans q14
      refine ⟨_, rfl, _, rfl, l, xs, rfl, .inl ⟨SqL.of (q1214 _ _ (t11 _ _ ld hl)), fun a15 n15 => ?_⟩⟩
      obtain ⟨Z15, z15⟩ : ∃ G, G = upd Z14 a15 (.tup xs) := ⟨_, rfl⟩
      rw [← z15]
      have q15 : Same Z14 Z15 := by rw [z15]; exact same_upd n15
      have m15 : Z15 a15 = some (.tup xs) := by rw [z15]; exact upd_same
      have c15 := c14.keep q15
      dsimp only [tC]
      refine twice_of rfl rfl (SqT.of m15) (by omega) fun a16 Z16 q16 m16 => ?_
      have c16 := c15.keep q16
      intro a17 n17
      obtain ⟨Z17, z17⟩ : ∃ G, G = upd Z16 a17 (.dK []) := ⟨_, rfl⟩
      rw [← z17]
      have q17 : Same Z16 Z17 := by rw [z17]; exact same_upd n17
      have m17 : Z17 a17 = some (.dK []) := by rw [z17]; exact upd_same
      have x17 := c16.ne n17
      have c17 := c16.keep q17
      refine ⟨by show 9 ≤ sizeLine; decide, fun a18 n18 => ?_⟩
      have x18 := c17.ne n18
      obtain ⟨Z18, z18⟩ : ∃ G, G = upd Z17 a18 (.lst [.ref a12, .ref a13, .ref a14, .ref a11, .non, .int 0, .str "child", .ref a16, .ref a17]) := ⟨_, rfl⟩
      rw [← z18]
      have q18 : Same Z17 Z18 := by rw [z18]; exact same_upd n18
      have m18 : Z18 a18 = some (.lst [.ref a12, .ref a13, .ref a14, .ref a11, .non, .int 0, .str "child", .ref a16, .ref a17]) := by rw [z18]; exact upd_same
      have c18 := c17.keep q18
      refine ⟨_, rfl, _, rfl, d, a18, _, rfl, c18, m18, x18, (by show 0 < 9; decide), (by show 9 < 1000; decide), fun y G19 hy d19 b19 => ?_⟩
      have p18 : SB d Z17 G19 := (SB.of q18).trans (SB.but b19)
      have p16 : SB d Z16 G19 := (SB.of q17).trans p18
      have p14 : SB d Z14 G19 := ((SB.of q15).trans (SB.of q16)).trans p16
      have p13 : SB d Z13 G19 := (SB.of q14).trans p14
      have p12 : SB d Z12 G19 := (SB.of q13).trans p13
      have p11 : SB d G12 G19 := (SB.of q12).trans p12
      have t19 : SB d H' G19 := t11.trans p11
      have es19 := dpAll_same hid_in _ _ (dvs p11)
      have yes : ∀ {a : Addr}, G19 a = some (.tup vs) → Arg K G19 (.ref a) (some es) ∧ fairO (some es) := fun m => ⟨.yes (.tup (SqT.of m) es19) (fun e he => (fine e he).ok) (by omega), fun e he => ⟨(fine e he).pl, (fine e he).dp⟩⟩
      obtain ⟨o, ao, fo⟩ : ∃ o, Arg K G19 y o ∧ fairO o := by
        simp only [List.mem_cons, List.not_mem_nil, or_false] at hy
        rcases hy with rfl | rfl | rfl | rfl | rfl | rfl | rfl | rfl | rfl
        · exact ⟨_, yes (p12 _ _ x12 m12)⟩
        · exact ⟨_, yes (p13 _ _ x13 m13)⟩
        · exact ⟨_, yes (p14 _ _ x14 m14)⟩
        · exact ⟨none, .no (.base (.lst (p11 _ _ a11d at11'))) rfl, trivial⟩
        · exact ⟨none, .no (.base .non) rfl, trivial⟩
        · exact ⟨none, .no (.base (.int 0)) rfl, trivial⟩
        · exact ⟨none, .no (.base (.str _)) rfl, trivial⟩
        · refine ⟨some (bs ++ bs), barsArg (fun e he => ?_) (by rw [List.length_append]; omega) (sqT_sb c16 p16 m16) (dpAll_same hid_in _ _ (dpAll_app (dpAll_same t19.hid _ _ hb') (dpAll_same t19.hid _ _ hb')))⟩
          rcases List.mem_append.mp he with h | h <;> exact allb e h
        · exact ⟨none, .no (.base (.dK (p18 _ _ x17 m17))) rfl, trivial⟩
      refine ⟨_, rfl, y, o, rfl, ao, fo, fun v20 G20 s20 an20 => ⟨_, ansD o, rfl, ans_dp an20, ans_may _, ?_⟩⟩
      have ao2 : Arg K G20 y o := by
        cases ao with
        | no t k => exact .no (tyx_same s20 t) k
        | yes dd ok l => exact .yes (dp_same s20 _ _ dd) ok l
      refine ⟨_, rfl, y, o, rfl, ao2, fo, fun v21 G21 s21 an21 => ⟨_, ansD o, rfl, ans_dp an21, ans_may _, ?_⟩⟩
      generalize (ansD o).shown = S
      refine ⟨rfl, false, by simp, ite2 (fun h => by cases h) (fun _ => ?_)⟩
      exact ⟨_, _, _, _, rfl, d19.keep (s20.trans s21), (s'.trans t19).trans (SB.of (s20.trans s21))⟩
    · rintro σ H' ⟨v2, v3, v4, v5, rfl, d', s'⟩
      exact qE _ d l xs bs _ _ _ _ _ _ _ H H' hd hT d' (sH11.trans s') (s' _ _ ld at11) ld (dpAll_same s'.hid _ _ hb11) allb nd lbs q
end
end LR
set_option Elab.async false
set_option linter.all false
set_option maxRecDepth 100000
set_option maxHeartbeats 4000000
namespace LR
open PySem PySem.Spec PyProof.Rows L2 CG SN KD OW LamX StX ClX
open PySem.W (kitOne Frag exmOne findIn keepIn codeIn excIn subIn typeIn)
/-! ### Filter.children -/
def isT : PyData → Bool | .tuple _ => true | _ => false
def kid : PyData → PyData | .tuple es => .tuple (.str "child" :: es) | d => d
def spKids (K : Frag) (CF cI : Addr) : Sp := fun vs H Q E => ∃ (p : Addr) (xs : List V) (ds : List PyData), vs = [.ref CF, .ref p] ∧ SqT K H p xs ∧ DpAll K H xs ds ∧ ds.length ≤ 60 ∧ (∀ d ∈ ds, okB (kid d)) ∧ (∀ es, PyData.tuple es ∈ ds → es.length ≤ 60) ∧
  (ds.all isT = true → goodB (ds.map kid) = true → ∀ H' b, Same H H' → H b = none → FB K CF H' b (sortD (ds.map kid)) → Q (.ref b) H') ∧
  (ds.all isT = false ∨ goodB (ds.map kid) = false → ∀ H', Same H H' → E (.ref cI) none H')
abbrev NK2 : List Str := ["cls", "triples", "triple"]
theorem scKi : FnScope NK2 (([Str.ofString "cls"] : List Str) ++ [Str.ofString "triples"]) (defScope mChildren) := ⟨rfl, rfl, rfl, by decide +kernel, rfl, by decide +kernel, by decide +kernel⟩
section
variable {P : Program} {w : World} {K : Frag} {mg : Str → Option Value} {base : Heap} {CF cI cO : Addr}
theorem pa_starK {X : Cx} {e : Expr} {es : List Expr} {te : TE} {t : TA} {p : Pos} (hk : X.K = K) (he : PE X e te) (hr : PA X es t) (hs : starEach (.Starred e p :: es) X.env = (true, eval e X.env) :: starEach es X.env := by rfl) : PA X (.Starred e p :: es) (tStar K te t) := by subst hk; exact pa_star he hr hs
theorem call_isiK {X : Cx} (hk : X.K = K) : CallR X (.builtin "isinstance") (rIsi K) := by subst hk; exact call_isi
theorem isT_all (l : List PyData) : ((List.range l.length).map fun i => isT (l.getD i .none)).all id = l.all isT := all_map l isT
theorem ok_kids {f : Addr} {fd : FuncData} (F : Fun K "children" "Filter.children" mChildren f fd) (C : Cm P w K mg base CF cI cO) :
    FnR P w K mg base (L2.CX P w) 8 f (fun vs H Q E => ∃ ws rest, vs = ws ++ rest ∧ ws.length = ["cls"].length ∧ rest.length ≤ sizeLine ∧ ∀ p, H p = none → spKids K CF cI (ws ++ [V.ref p]) (upd H p (.tup rest)) Q E) := by
  obtain ⟨fm, dm, MK, GM, bM⟩ := C.make
  have Sy := C.sy
  obtain ⟨oc, od, kV, doc, pm, an, cdv, ct, osl, rfl, lk, hcd⟩ := F.ex
  refine fn_star (ps := ["cls"]) (pv := "triples") (N := NK2) (sp := spKids K CF cI) (k := 7) lk hcd scKi cxUp (fun us rest hl => ?_) (fun A outer s H vs Q E hr h => ?_)
  · match us, hl with
    | [u], _ =>
      cases rest with
      | nil => rfl
      | cons a r => rfl
  · obtain ⟨p, xs, ds, rfl, hq, hd, len, ok, short, q, e⟩ := h
    have hr7 := hr
    refine ⟨_, pss_cons (ps_if (pt_not (pt_val (pe_callB (cr_all rfl) (by rfl) Sy.all PyProof.Rows.boot_all (pa_cons (pe_lc (own := [("triple", 2)]) (g := gName 2) (tt := tYes) rfl scKi.nd (pi_tup (pv 1))
          (blkOk_by (N := NK2) (sc := defScope mChildren) (by decide +kernel)) (fun _ _ _ _ _ => pg_name (i := 2) scKi.nd rfl (Or.inl rfl)) (fun _ _ _ _ _ => pts_nil)
          (fun _ _ _ _ _ => pe_callB (call_isiK (K := K) rfl) (by rfl) Sy.isi PyProof.Rows.boot_isinstance (pa_cons (pv 2) (pa_cons (pe_bltn (v := .ty "tuple") (by rfl) Sy.tuple PyProof.Rows.boot_tuple rfl) pa_nil)))) pa_nil))))
        (pss_one (ps_raise rfl (takes_of rfl rfl rfl rfl) (pmk_own PySem.F.excBase_ValueError C.xI.x C.xI.g C.xI.k (raises_own C.xI.b C.xI.t) rfl))) pss_nil)
      (pss_one (ps_ret (pe_makeL (i := 0) MK GM hr7 rfl (Or.inl rfl) bM .nil (passes_call (takes_of rfl rfl rfl rfl) fun _ _ _ _ h => h) (pa_cons (pe_callTy call_tuple_of (by rfl) Sy.tuple PyProof.Rows.boot_tuple
        (pa_cons (pe_lc (own := [("triple", 2)]) (g := gName 2) (tt := tYes) rfl scKi.nd (pi_tup (pv 1))
          (blkOk_by (N := NK2) (sc := defScope mChildren) (by decide +kernel)) (fun _ _ _ _ _ => pg_name (i := 2) scKi.nd rfl (Or.inl rfl)) (fun _ _ _ _ _ => pts_nil)
          (fun _ _ _ _ _ => pe_tup (pa_cons pe_str (pa_starK (K := K) rfl (pv 2) pa_nil)))) pa_nil)) pa_nil)))), ?_⟩
    have lx := dpAll_len hd
    refine ⟨_, rfl, p, rfl, ⟨xs, hq⟩, fun D nD => ?_⟩
    refine lc_gen (walk_tup (xs := xs)) (fun _ => true) (fun i => .bl (isT (ds.getD i .none))) (Nat.lt_of_le_of_lt (show xs.length ≤ 60 by omega) (by decide)) nD (fun _ => rfl) (fun H' s' => sqT_same s' hq) ?_ ?_
    · rintro i y H' H'' hi same ⟨rfl, hxi⟩
      refine ⟨rfl, fun R h => h _ (fun _ _ e => e), fun _ H3 s3 R h => ?_⟩
      obtain ⟨d, hdi, dy⟩ := dpAll_at hd i y hxi
      obtain ⟨t, _, ty⟩ := dp_ty (dp_same (same.trans s3) _ _ dy)
      refine ⟨_, rfl, y, _, t, _, _, rfl, .ty _, ty.ty, ty.tup, ?_⟩
      rw [List.getD_eq_getElem?_getD, hdi] at h
      have z := h H3 (Same.rfl' _)
      have ez : (tupO d).isSome = isT d := by cases d <;> rfl
      rw [ez]
      exact z
    · intro H1 s1 at1
      rw [filter_true] at at1
      refine ⟨D, (List.range ds.length).map fun i => isT (ds.getD i .none), rfl, SqL.of (by rw [List.map_map, ← lx]; exact at1), ?_⟩
      rw [isT_all]
      refine ⟨_, rfl, ite2 (fun h1 => ?_) (fun h1 => ?_)⟩
      · exact e (.inl (by simpa using h1)) H1 s1
      · have allT : ds.all isT = true := by simpa using h1
        refine ⟨rfl, _, rfl, p, rfl, ⟨xs, sqT_same s1 hq⟩, fun D2 nD2 => ?_⟩
        refine lc_dp (K := K) (walk_tup (xs := xs)) ds (fun _ => true) kid lx.symm (Nat.lt_of_le_of_lt (show xs.length ≤ 60 by omega) (by decide)) nD2 (fun _ => rfl) (fun H' s' => sqT_same (s1.trans s') hq) ?_ ?_
        · rintro i d y H' H'' hdi same atD ⟨rfl, hxi⟩
          obtain ⟨d', he, dz⟩ := dpAll_at hd i y hxi
          rw [hdi] at he
          cases he
          refine ⟨rfl, fun R h => h _ (Same.rfl' _), fun _ H3 s3 R h => ?_⟩
          have td := List.all_eq_true.mp allT d (List.mem_of_getElem? hdi)
          obtain ⟨es, rfl⟩ : ∃ es, d = .tuple es := by cases d <;> first | exact ⟨_, rfl⟩ | cases td
          have le := short es (List.mem_of_getElem? hdi)
          have s13 := same.trans s3
          cases dz with
          | @tup r ws _ hq3 hd3 =>
            have lw := dpAll_len hd3
            refine ⟨_, rfl, r, ws, rfl, .inl (sqT_same (s1.trans s13) hq3), ?_⟩
            dsimp only [tNil]
            rw [List.append_nil]
            refine ⟨Nat.le_trans (show ws.length + 1 ≤ 100 by omega) (by decide), fun m nm => ?_⟩
            have mD : m ≠ D2 := fun e => by
              obtain ⟨acc, e2⟩ := atD
              rw [e, s3 _ _ e2] at nm
              cases nm
            have s4 := same_upd (o := .tup (.str "child" :: ws)) nm
            refine h (.ref m) _ s4 (.tup (SqT.of (hid_of mD upd_same)) (.cons (.str _) (dpAll_same ?_ _ _ hd3)))
            exact s1.trans (hid_new nD2 (s13.trans s4))
        · intro H4 acc s4 at4 dd4
          rw [filter_true] at dd4
          refine ⟨D2, acc, rfl, .inl ⟨SqL.of at4, fun l nl => ?_⟩⟩
          have s5 := (s1.trans s4).trans (same_upd (o := .tup acc) nl)
          refine mk_arg (o := some (ds.map kid)) (.yes (.tup (SqT.of upd_same) (dpAll_same (hid_in.trans (same_upd nl)) _ _ dd4)) (fun d hd => ?_) (by rw [List.length_map]; omega)) ?_ ?_
          · obtain ⟨d0, h0, rfl⟩ := List.mem_map.mp hd
            exact ok d0 h0
          · intro es e' g H' b' s' nb' fb'
            cases e'
            refine q allT g H' b' (s5.trans s') ?_ fb'
            cases z : H b' with
            | none => rfl
            | some o => cases (s5 _ _ z).symm.trans nb'
          · intro g H' s'
            exact e (.inr g) H' (s5.trans s')
end
end LR
set_option Elab.async false
set_option linter.all false
set_option maxRecDepth 100000
set_option maxHeartbeats 4000000
namespace LR
open PySem PySem.Spec PyProof.Rows L2 CG SN KD OW LamX StX ClX
open PySem.W (kitOne Frag exmOne findIn keepIn codeIn excIn subIn typeIn)
/-! ### the law -/
def spStar (K : Frag) (CF cI : Addr) : Sp := fun vs H Q E => ∃ ws rest, vs = ws ++ rest ∧ ws.length = [Str.ofString "cls"].length ∧ rest.length ≤ sizeLine ∧ ∀ p, H p = none → spKids K CF cI (ws ++ [V.ref p]) (upd H p (.tup rest)) Q E
structure Kd (P : Program) (w : World) (K : Frag) (mg : Str → Option Value) (base : Heap) (CF cI : Addr) : Prop where
  made0 : ∃ f fd e0, Mk K CF f ∧ FnOk P w K mg base (L2.CX P w) 6 f fd ["self", "bars"] (spFInit K CF cI) ∧ Binds K fd ["self", "bars"] [.ref e0] ∧ ∀ H, SqT K H e0 []
  kids : ∃ mc p g, CRead K CF mc ∧ CMet K CF mc "children" p g ∧ FnR P w K mg base (L2.CX P w) 8 g (spStar K CF cI)
  hows : HowsAt K mg
theorem sortD_nil : sortD [] = [] := List.eq_nil_of_length_eq_zero (sortD_perm []).length_eq
theorem sort_is {bs ts : List PyData} (p : ts.Perm bs) (b : ∀ d ∈ bs, barB d = true) (s : ts.Pairwise fun x y => dLe x y = true) : sortD bs = ts := by
  have q : (sortD bs).Perm ts := (sortD_perm bs).trans p.symm
  exact List.Perm.eq_of_pairwise (le := fun a b => dLe a b = true) (fun x y hx hy h1 h2 => dLe_anti (b x ((sortD_perm bs).mem_iff.mp hx)) (b y (p.mem_iff.mp hy)) h1 h2) (sortD_sorted bs) s q
abbrev tri (o : Str) (i : Int) (n : Str) : PyData := .tuple [.str o, .int i, .str n]
abbrev three : List PyData := [tri "neg" 1 "plus", tri "a" 0 "b", tri "a" 0 "a"]
abbrev bar4 (o : Str) (i : Int) (n : Str) : PyData := .tuple [.str "child", .str o, .int i, .str n]
abbrev threeB : List PyData := [bar4 "a" 0 "a", bar4 "a" 0 "b", bar4 "neg" 1 "plus"]
theorem three_good : goodB (three.map kid) = true := by decide +kernel
theorem three_sorted : sortD (three.map kid) = threeB := by
  refine sort_is ?_ (goodB_iff.mp three_good).2.1 ?_
  · show [bar4 "a" 0 "a", bar4 "a" 0 "b", bar4 "neg" 1 "plus"].Perm [bar4 "neg" 1 "plus", bar4 "a" 0 "b", bar4 "a" 0 "a"]
    exact (List.reverse_perm [bar4 "neg" 1 "plus", bar4 "a" 0 "b", bar4 "a" 0 "a"])
  · refine .cons ?_ (.cons ?_ (.cons ?_ .nil))
    · intro d hd
      simp only [List.mem_cons, List.not_mem_nil, or_false] at hd
      rcases hd with rfl | rfl <;> decide +kernel
    · intro d hd
      simp only [List.mem_cons, List.not_mem_nil, or_false] at hd
      rcases hd with rfl
      decide +kernel
    · intro d hd
      cases hd
abbrev NLa : List Str := ["_law_script", "_law_spot", "_law_told", "_law_three"]
theorem scLa : FnScope NLa ["_law_script"] (defScope sLaw) := ⟨rfl, rfl, rfl, by decide +kernel, rfl, by decide +kernel, by decide +kernel⟩
def qLa : Str := "law" ++ ".<locals>." ++ "<lambda>"
abbrev XLa (P : Program) (w : World) (K : Frag) (mg : Str → Option Value) (base : Heap) (f c : Addr) (A : Around) (outer : List Env) (s : Shared) (H : Hp) (E : XK) : Cx :=
  (cxOf CX0 P w K mg base NLa "law" (defScope sLaw) f (.ref c) A outer s H E).nox
def spLaw (K : Frag) (T : List (Addr × Str)) : Sp := fun vs H Q _ => ∃ (a : Addr) (ns : List Int), vs = [.ref a] ∧ SqL K H a (ns.map V.int) ∧ ns.length ≤ 63 ∧ Tabs T H ∧ ∀ H', Q (.bl true) H'
section
variable {P : Program} {w : World} {K : Frag} {mg : Str → Option Value} {base : Heap} {CF cI cO : Addr} {T : List (Addr × Str)} {f c pT : Addr} {A : Around} {outer : List Env} {s : Shared} {H0 : Hp} {E : XK}
theorem star_of {H : Hp} {xs : List V} {ds : List PyData} {Q : VK} {E : XK} (hd : DpAll K H xs ds) (len : ds.length ≤ 60) (ok : ∀ d ∈ ds, okB (kid d)) (short : ∀ es, PyData.tuple es ∈ ds → es.length ≤ 60)
    (q1 : ds.all isT = true → goodB (ds.map kid) = true → ∀ H' b, Same H H' → FB K CF H' b (sortD (ds.map kid)) → Q (.ref b) H') (q2 : ds.all isT = false ∨ goodB (ds.map kid) = false → ∀ H', Same H H' → E (.ref cI) none H') :
    spStar K CF cI (.ref CF :: xs) H Q E := by
  have lx := dpAll_len hd
  refine ⟨[.ref CF], xs, rfl, rfl, Nat.le_trans (show xs.length ≤ 60 by omega) (by decide), fun p np => ?_⟩
  have s0 := same_upd (o := .tup xs) np
  exact ⟨p, xs, ds, rfl, SqT.of upd_same, dpAll_same s0 _ _ hd, len, ok, short, fun a g H' b s nb fb => q1 a g H' b (s0.trans s) fb, fun bad H' s => q2 bad H' (s0.trans s)⟩
/-- the word of filters by triples that are none -/
theorem bad_word {H : Hp} {xs : List V} {ds : List PyData} {Q : VK} {E : XK} (hd : DpAll K H xs ds) (len : ds.length ≤ 60) (ok : ∀ d ∈ ds, okB (kid d)) (short : ∀ es, PyData.tuple es ∈ ds → es.length ≤ 60) (bad : (ds.all isT && goodB (ds.map kid)) = false)
    (e : ∀ H', Same H H' → E (.ref cI) none H') : spStar K CF cI (.ref CF :: xs) H Q E := by
  refine star_of hd len ok short (fun a g => ?_) (fun _ H' s => e H' s)
  rw [a, g] at bad
  cases bad
/-- the four words -/
theorem law_C (C : Cm P w K mg base CF cI cO) (O2 : Ops2 P w K mg base CF cI cO) (D' : Kd P w K mg base CF cI) (B : Tb base mg T c pT qLa) (hg : A.guards = some []) (hr : Room 12 (A.deeper (envOfC "law" (defScope sLaw) s.heap.objs.size f (.ref c)))) :
    ∃ t, PSs (XLa P w K mg base f c A outer s H0 E) ((defBody sLaw).drop 5) t ∧
      ∀ (D : Ends) (a : Addr) (x1 x2 x3 : Option V) (H : Hp), Tabs T H → (∀ H', D.rt (.bl true) H') → t D [some (.ref a), x1, x2, x3] H := by
  have Sy := C.sy
  obtain ⟨mc, pk, gk, CR, CM, FK⟩ := D'.kids
  obtain ⟨g, oc, od, kV, doc, pm, an, cdv, ct, osl, gE, kE, lkE, cdE, bE⟩ := O2.word
  have hr4 : Room 4 _ := hr.mono (by decide)
  have hr10 : Room 10 _ := hr.mono (by decide)
  have hu := hr.units
  refine ⟨_, pss_cons (ps_set (i := 2) scLa.nd rfl (Or.inl rfl) (pe_lst (pa_cons (pe_lamcall (T := T) (TT := TWord K CF cI cO) (k := 8) (a := "_law_call") (Ng := NW) (t := fun E => tCMeth CF (spStar K CF cI) E (tC (.ref CF)) tNil) rfl gE kE lkE cdE bE scWL rfl (Or.inl rfl)
        (word_gives C O2.mx hg hr4) B.tb rfl B.m B.u hr10 (lamS_by (show lamSB (defScope sLaw) _ = true by decide +kernel)) rfl (fun _ _ _ _ _ => rfl)
        (fun A outer s H E f c' hrl => pe_cmeth0 (E := E) (pe_glob (v := .ref CF) rfl C.fc.g rfl) CR CM FK hrl (passes_call (takes_of rfl rfl rfl rfl) fun _ _ _ _ h => h))) pa_nil)))
    (pss_cons (ps_expr (pe_bm PySem.F.plainAttrs_list PySem.F.slot_list_append PySem.F.type_list_append mt_append (pv 2) (pa_cons (pe_lamcall (T := T) (TT := TWord K CF cI cO) (k := 8) (a := "_law_call") (Ng := NW) (t := fun E => tCMeth CF (spStar K CF cI) E (tC (.ref CF)) (tCons (tTup (tCons (tC (.str "neg")) (tCons (tC (.int 1)) tNil))) tNil)) rfl gE kE lkE cdE bE scWL rfl (Or.inl rfl)
        (word_gives C O2.mx hg hr4) B.tb rfl B.m B.u hr10 (lamS_by (show lamSB (defScope sLaw) _ = true by decide +kernel)) rfl (fun _ _ _ _ _ => rfl)
        (fun A outer s H E f c' hrl => pe_cmeth (E := E) (pe_glob (v := .ref CF) rfl C.fc.g rfl) CR CM FK hrl (passes_call (takes_of rfl rfl rfl rfl) fun _ _ _ _ h => h) (pa_cons (pe_tup (pa_cons pe_str (pa_cons pe_int pa_nil))) pa_nil))) pa_nil)))
    (pss_cons (ps_expr (pe_bm PySem.F.plainAttrs_list PySem.F.slot_list_append PySem.F.type_list_append mt_append (pv 2) (pa_cons (pe_lamcall (T := T) (TT := TWord K CF cI cO) (k := 8) (a := "_law_call") (Ng := NW) (t := fun E => tCMeth CF (spStar K CF cI) E (tC (.ref CF)) (tCons (tTup (tCons (tC (.str "neg")) (tCons (tC (.int 1)) (tCons (tC (.str "plus")) tNil)))) (tCons (tTup (tCons (tC (.str "neg")) (tCons (tC (.int 1)) (tCons (tC (.str "plus")) tNil)))) tNil))) rfl gE kE lkE cdE bE scWL rfl (Or.inl rfl)
        (word_gives C O2.mx hg hr4) B.tb rfl B.m B.u hr10 (lamS_by (show lamSB (defScope sLaw) _ = true by decide +kernel)) rfl (fun _ _ _ _ _ => rfl)
        (fun A outer s H E f c' hrl => pe_cmeth (E := E) (pe_glob (v := .ref CF) rfl C.fc.g rfl) CR CM FK hrl (passes_call (takes_of rfl rfl rfl rfl) fun _ _ _ _ h => h) (pa_cons (pe_tup (pa_cons pe_str (pa_cons pe_int (pa_cons pe_str pa_nil)))) (pa_cons (pe_tup (pa_cons pe_str (pa_cons pe_int (pa_cons pe_str pa_nil)))) pa_nil)))) pa_nil)))
    (pss_cons (ps_expr (pe_bm PySem.F.plainAttrs_list PySem.F.slot_list_append PySem.F.type_list_append mt_append (pv 2) (pa_cons (pe_lamcall (T := T) (TT := TWord K CF cI cO) (k := 8) (a := "_law_call") (Ng := NW) (t := fun E => tCMeth CF (spStar K CF cI) E (tC (.ref CF)) (tCons (tTup (tCons (tC (.str "neg")) (tCons (tC (.int 1)) (tCons (tC (.str "plus")) tNil)))) (tCons (tC .non) tNil))) rfl gE kE lkE cdE bE scWL rfl (Or.inl rfl)
        (word_gives C O2.mx hg hr4) B.tb rfl B.m B.u hr10 (lamS_by (show lamSB (defScope sLaw) _ = true by decide +kernel)) rfl (fun _ _ _ _ _ => rfl)
        (fun A outer s H E f c' hrl => pe_cmeth (E := E) (pe_glob (v := .ref CF) rfl C.fc.g rfl) CR CM FK hrl (passes_call (takes_of rfl rfl rfl rfl) fun _ _ _ _ h => h) (pa_cons (pe_tup (pa_cons pe_str (pa_cons pe_int (pa_cons pe_str pa_nil)))) (pa_cons pe_non pa_nil)))) pa_nil)))
    (pss_one (ps_ret (pe_cmpR (op_eqP hr.units) (pv 2) (pe_lst (pa_cons pe_str (pa_cons pe_str (pa_cons pe_str (pa_cons pe_str pa_nil))))) (nomark _))))))), ?_⟩
  intro D a x1 x2 x3 H hT q
  have okt : ∀ (o n : Str) (i : Int), o.length ≤ 10000 → n.length ≤ 10000 → okB (kid (tri o i n)) := fun o n i h1 h2 es e => by
    cases e
    intro x hx
    simp only [List.mem_cons, List.not_mem_nil, or_false] at hx
    rcases hx with rfl | rfl | rfl | rfl
    · exact fun z e => by cases e; decide +kernel
    · exact fun z e => by cases e; exact h1
    · exact fun z e => by cases e
    · exact fun z e => by cases e; exact h2
  have okn : okB (kid (tri "neg" 1 "plus")) := okt "neg" "plus" 1 (by decide +kernel) (by decide +kernel)
  have sh3 : ∀ {o n : Str} {i : Int} {es : List PyData}, PyData.tuple es = tri o i n → es.length ≤ 60 := fun e => by cases e; exact (by decide : 3 ≤ 60)
  refine ⟨hT, fun H1 e1 t1 => ?_⟩
  refine ⟨rfl, ?_⟩
  refine star_of (ds := []) .nil (by decide) (fun _ z => by cases z) (fun _ z => by cases z) (fun _ _ H2 b s2 fb => ?_) (fun z => ?_)
  rotate_left
  · rcases z with z | z
    · cases z
    · rw [show goodB (([] : List PyData).map kid) = true by decide +kernel] at z
      cases z
  obtain ⟨p0, ⟨dx, fa⟩, dd⟩ := fb
  have es : sortD (([] : List PyData).map kid) = [] := sortD_nil
  rw [es] at dd
  refine ⟨b, dx, _, rfl, fa, b, [], rfl, ⟨p0, ⟨dx, fa⟩, dd⟩, fun p2 f2 d2 => ⟨_, .tuple [], rfl, d2, ⟨rfl, rfl, by decide +kernel, by decide +kernel⟩, ?_⟩⟩
  rw [show (PyData.tuple []).shown = "()" by decide +kernel]
  refine ⟨by show 1 ≤ sizeLine; decide, fun p np => ?_⟩
  have t3 : Tabs T (upd H2 p (.lst [.str "()"])) := (t1.ext s2).ext (same_upd np)
  have at3 : upd H2 p (.lst [.str "()"]) p = some (.lst [.str "()"]) := upd_same
  generalize upd H2 p (.lst [.str "()"]) = H3 at t3 at3
  -- ("neg", 1)
  refine ⟨_, rfl, .inl ⟨rfl, _, SqL.of at3⟩, ?_⟩
  refine ⟨t3, fun H4 e4 t4 => ?_⟩
  have at4 := e4 _ _ at3 fun ps z => by cases z
  refine ⟨rfl, by show 2 ≤ sizeLine; decide, fun a5 n5 => ?_⟩
  have s5 := same_upd (o := .tup [.str "neg", .int 1]) n5
  dsimp only [tNil]
  refine bad_word (ds := [.tuple [.str "neg", .int 1]]) (.cons (.tup (SqT.of upd_same) (.cons (.str _) (.cons (.int 1) .nil))) .nil) (by decide) (fun d hd => ?_) (fun es he => ?_) (by decide +kernel) fun H6 s6 => .inr ⟨rfl, ?_⟩
  · rw [List.mem_singleton.mp hd]
    intro es e
    cases e
    intro x hx
    simp only [List.mem_cons, List.not_mem_nil, or_false] at hx
    rcases hx with rfl | rfl | rfl
    · exact fun z e => by cases e; decide +kernel
    · exact fun z e => by cases e; decide +kernel
    · exact fun z e => by cases e
  · have := List.mem_singleton.mp he
    cases this
    exact (by decide : 2 ≤ 60)
  have s46 := s5.trans s6
  have t6 := t4.ext s46
  have at6 := s46 _ _ at4
  refine ⟨p, _, _, rfl, rfl, at6, (by show 1 < sizeLine; decide), ?_⟩
  have t7 : Tabs T (upd H6 p (.lst ([.str "()"] ++ [.str "filter"]))) := tabs_lst at6 t6 fun b o n z => by rw [upd_ne n]; exact z
  have at7 : upd H6 p (.lst ([.str "()"] ++ [.str "filter"])) p = some (.lst [.str "()", .str "filter"]) := upd_same
  generalize upd H6 p (.lst ([.str "()"] ++ [.str "filter"])) = H7 at t7 at7
  -- the same triple twice
  refine ⟨_, rfl, .inl ⟨rfl, _, SqL.of at7⟩, ?_⟩
  refine ⟨t7, fun H8 e8 t8 => ?_⟩
  have at8 := e8 _ _ at7 fun ps z => by cases z
  refine ⟨rfl, by show 3 ≤ sizeLine; decide, fun a9 n9 => ?_⟩
  have s9 := same_upd (o := .tup [.str "neg", .int 1, .str "plus"]) n9
  refine ⟨by show 3 ≤ sizeLine; decide, fun a10 n10 => ?_⟩
  have s10 := same_upd (o := .tup [.str "neg", .int 1, .str "plus"]) n10
  have tr : ∀ {H : Hp}, DpAll K H [.str "neg", .int 1, .str "plus"] [.str "neg", .int 1, .str "plus"] := .cons (.str _) (.cons (.int 1) (.cons (.str _) .nil))
  dsimp only [tNil]
  refine bad_word (ds := [tri "neg" 1 "plus", tri "neg" 1 "plus"]) (.cons (.tup (SqT.of (s10 _ _ upd_same)) tr) (.cons (.tup (SqT.of upd_same) tr) .nil)) (by decide) (fun d hd => ?_) (fun es he => ?_) (by decide +kernel) fun H11 s11 => .inr ⟨rfl, ?_⟩
  · simp only [List.mem_cons, List.not_mem_nil, or_false, or_self] at hd
    rw [hd]
    exact okn
  · simp only [List.mem_cons, List.not_mem_nil, or_false, or_self] at he
    exact sh3 he
  have s811 := (s9.trans s10).trans s11
  have t11 := t8.ext s811
  have at11 := s811 _ _ at8
  refine ⟨p, _, _, rfl, rfl, at11, (by show 2 < sizeLine; decide), ?_⟩
  have t12 : Tabs T (upd H11 p (.lst ([.str "()", .str "filter"] ++ [.str "filter"]))) := tabs_lst at11 t11 fun b o n z => by rw [upd_ne n]; exact z
  have at12 : upd H11 p (.lst ([.str "()", .str "filter"] ++ [.str "filter"])) p = some (.lst [.str "()", .str "filter", .str "filter"]) := upd_same
  generalize upd H11 p (.lst ([.str "()", .str "filter"] ++ [.str "filter"])) = H12 at t12 at12
  -- no triple
  refine ⟨_, rfl, .inl ⟨rfl, _, SqL.of at12⟩, ?_⟩
  refine ⟨t12, fun H13 e13 t13 => ?_⟩
  have at13 := e13 _ _ at12 fun ps z => by cases z
  refine ⟨rfl, by show 3 ≤ sizeLine; decide, fun a14 n14 => ?_⟩
  have s14 := same_upd (o := .tup [.str "neg", .int 1, .str "plus"]) n14
  dsimp only [tNil, tC]
  refine bad_word (ds := [tri "neg" 1 "plus", .none]) (.cons (.tup (SqT.of upd_same) tr) (.cons .non .nil)) (by decide) (fun d hd => ?_) (fun es he => ?_) (by decide +kernel) fun H15 s15 => .inr ⟨rfl, ?_⟩
  · simp only [List.mem_cons, List.not_mem_nil, or_false] at hd
    rcases hd with rfl | rfl
    · exact okn
    · exact fun es e => by cases e
  · simp only [List.mem_cons, List.not_mem_nil, or_false] at he
    rcases he with h | h
    · exact sh3 h
    · cases h
  have s1315 := s14.trans s15
  have at15 := s1315 _ _ at13
  refine ⟨p, _, _, rfl, rfl, at15, (by show 3 < sizeLine; decide), ?_⟩
  have at16 : upd H15 p (.lst ([.str "()", .str "filter", .str "filter"] ++ [.str "filter"])) p = some (.lst [.str "()", .str "filter", .str "filter", .str "filter"]) := upd_same
  generalize upd H15 p (.lst ([.str "()", .str "filter", .str "filter"] ++ [.str "filter"])) = H16 at at16
  refine ⟨_, rfl, by show 4 ≤ sizeLine; decide, fun a17 n17 => ?_⟩
  have four : ∀ {H : Hp}, DpAll K H [.str "()", .str "filter", .str "filter", .str "filter"] [.str "()", .str "filter", .str "filter", .str "filter"] := .cons (.str _) (.cons (.str _) (.cons (.str _) (.cons (.str _) .nil)))
  refine ⟨.list [.str "()", .str "filter", .str "filter", .str "filter"], .list [.str "()", .str "filter", .str "filter", .str "filter"], .lst (SqL.of (same_upd n17 _ _ at16)) four, .lst (SqL.of upd_same) four, rfl, rfl, by decide +kernel, ?_⟩
  rw [if_neg Bool.false_ne_true, show (PyData.list [.str "()", .str "filter", .str "filter", .str "filter"]).eqv (.list [.str "()", .str "filter", .str "filter", .str "filter"]) = true by decide +kernel]
  exact q _
end
end LR
set_option Elab.async false
set_option linter.all false
set_option maxRecDepth 100000
set_option maxHeartbeats 4000000
namespace LR
open PySem PySem.Spec PyProof.Rows L2 CG SN KD OW LamX StX ClX
open PySem.W (kitOne Frag exmOne findIn keepIn codeIn excIn subIn typeIn)
theorem sqL_eb {K : Frag} {d a : Addr} {xs : List V} {H H' : Hp} (n : a ≠ d) (s : EB d H H') (h : SqL K H a xs) : SqL K H' a xs := by
  rcases h with (h | ⟨o, h⟩) | h
  · exact .inl (.inl (s _ _ n (fun ps z => by cases z) h))
  · exact .inl (.inr ⟨o, s _ _ n (fun ps z => by cases z) h⟩)
  · exact .inr h
section
variable {P : Program} {w : World} {K : Frag} {mg : Str → Option Value} {base : Heap} {CF cI cO : Addr} {T : List (Addr × Str)} {f c pT fD fR : Addr} {dD dR : FuncData}
theorem ok_law {fd : FuncData} (F : FunC K "law" "law" sLaw f fd c) (C : Cm P w K mg base CF cI cO) (O : Ops P w K mg base CF) (O2 : Ops2 P w K mg base CF cI cO) (D' : Kd P w K mg base CF cI) (B : Tb base mg T c pT qLa) (bl : Blt mg)
    (GD : FnOk P w K mg base CX0 1 fD dD ["_law_script", "_law_spot"] (spDice K)) (gD : mg "_law_dice" = some (.ref fD)) (kD : keepIn K (.ref fD) = true) (bD : L2.Binds K dD ["_law_script", "_law_spot"] [])
    (GR : FnG P w K mg base CX0 12 fR dR ["_law_dice_here"] (spRight T)) (gR : mg "_law_right" = some (.ref fR)) (kR : keepIn K (.ref fR) = true) (bR : L2.Binds K dR ["_law_dice_here"] []) :
    FnG P w K mg base CX0 13 f fd ["_law_script"] (spLaw K T) := by
  refine fnC_of (N := NLa) F scLa (fun vs H Q E h => ?_) (fun A outer s H vs Q E hr hg h => ?_)
  · obtain ⟨a, ns, rfl, _⟩ := h
    rfl
  · obtain ⟨a, ns, rfl, hS, len, hT, fin⟩ := h
    obtain ⟨tK, hK, qK⟩ := law_C C O2 D' B hg hr (P := P) (w := w) (f := f) (s := s) (outer := outer) (H0 := H) (E := E)
    obtain ⟨pp, gp, dp, PR, GP, bP⟩ := C.pr
    have Sy := C.sy
    obtain ⟨fm, dm, e0, MK, GM, bM, z0⟩ := D'.made0
    obtain ⟨mc, pk, gk, CR, CM, FK⟩ := D'.kids
    obtain ⟨ah, mh, sh⟩ := D'.hows
    obtain ⟨tb, htb⟩ := Sy.mbs
    obtain ⟨tt, htt⟩ := Sy.mts
    obtain ⟨fb, db, Db, Gb⟩ := O.bool
    obtain ⟨fs, ds, Ds, Gs⟩ := O.str
    have hr1 : Room 1 _ := hr.mono (by decide)
    have hr2 : Room 2 _ := hr.mono (by decide)
    have hr3 : Room 3 _ := hr.mono (by decide)
    have hr7 : Room 7 _ := hr.mono (by decide)
    have hr8 : Room 8 _ := hr.mono (by decide)
    have hu := hr.units
    refine ⟨_, PSs.nox (pss_cons (ps_for PassesOwn.never rfl (pi_range1 rfl Sy.range (pa_cons (pe_callB (call_max2 rfl) (by rfl) bl.max PyProof.Rows.boot_max (pa_cons pe_int (pa_cons
            (pe_callB (call_min2 rfl) (by rfl) Sy.min PyProof.Rows.boot_min (pa_cons pe_int (pa_cons (pe_callB call_len (by rfl) Sy.len PySem.boot_len (pa_cons (pv 0) pa_nil)) pa_nil))) pa_nil))) pa_nil))
          (pg_name (i := 1) scLa.nd rfl (Or.inl rfl))
          (pss_one (ps_if (pt_not (pt_val (pe_callG GR hr hg rfl gR kR bR pass0 (pa_cons (pe_call GD hr1 rfl gD kD bD .nil pass0 (pa_cons (pv 0) (pa_cons (pv 1) pa_nil))) pa_nil)))) (pss_one (ps_ret pe_bl)) pss_nil)))
      (pss_cons (ps_set (i := 2) scLa.nd rfl (Or.inl rfl) (pe_lst (pa_cons (pe_glob (v := .ref ah) rfl mh rfl) (pa_cons (pe_glob (v := .int 60) rfl htb ⟨tb, rfl⟩) (pa_cons (pe_glob (v := .int 20) rfl htt ⟨tt, rfl⟩)
          (pa_cons (pe_callTy (call_strO Gs hr3 Ds pass0) (by rfl) Sy.str PyProof.Rows.boot_str (pa_cons (pe_make0 MK GM hr7 rfl C.fc.g bM (.cons (a := V.ref e0) rfl .nil) passF) pa_nil))
          (pa_cons (pe_callTy (call_boolO Gb hr3 Db pass0) (by rfl) Sy.bool PyProof.Rows.boot_bool (pa_cons (pe_make0 MK GM hr7 rfl C.fc.g bM (.cons (a := V.ref e0) rfl .nil) passF) pa_nil))
          (pa_cons (pe_prop (pe_make0 MK GM hr7 rfl C.fc.g bM (.cons (a := V.ref e0) rfl .nil) passF) C.fc.cl PR GP hr2 bP .nil pass0 rfl) pa_nil))))))))
      (pss_cons (ps_if (pt_cmpR (op_neK (K := K) rfl hr.units) (pv 2) (pe_lst (pa_cons (pe_tup (pa_cons pe_str (pa_cons pe_str (pa_cons pe_str pa_nil)))) (pa_cons pe_int (pa_cons pe_int (pa_cons pe_str (pa_cons pe_bl (pa_cons (pe_tup pa_nil) pa_nil))))))) (nomark _))
        (pss_one (ps_ret pe_bl)) pss_nil)
      (pss_cons (ps_set (i := 3) scLa.nd rfl (Or.inl rfl) (pe_cmeth (pe_glob (v := .ref CF) rfl C.fc.g rfl) CR CM FK hr8 passF (pa_cons (pe_tup (pa_cons pe_str (pa_cons pe_int (pa_cons pe_str pa_nil))))
          (pa_cons (pe_tup (pa_cons pe_str (pa_cons pe_int (pa_cons pe_str pa_nil)))) (pa_cons (pe_tup (pa_cons pe_str (pa_cons pe_int (pa_cons pe_str pa_nil)))) pa_nil)))))
      (pss_cons (ps_if (pt_cmpR (op_neK (K := K) rfl hr.units) (pe_prop (pv 3) C.fc.cl PR GP hr2 bP .nil pass0 rfl) (pe_tup (pa_cons (pe_tup (pa_cons pe_str (pa_cons pe_str (pa_cons pe_int (pa_cons pe_str pa_nil)))))
          (pa_cons (pe_tup (pa_cons pe_str (pa_cons pe_str (pa_cons pe_int (pa_cons pe_str pa_nil))))) (pa_cons (pe_tup (pa_cons pe_str (pa_cons pe_str (pa_cons pe_int (pa_cons pe_str pa_nil))))) pa_nil)))) (nomark _))
        (pss_one (ps_ret pe_bl)) pss_nil) hK))))), ?_⟩
    refine ⟨_, rfl, .ref a, _, rfl, .inl ⟨_, hS, rfl⟩, _, _, rfl, _, _, rfl, _, rfl, ?b1, ?b2, for_range (lo := 0) (fun i σ H' => ∃ v, σ = [some (.ref a), v, none, none] ∧ Tabs T H' ∧ SqL K H' a (ns.map V.int)) ⟨none, rfl, hT, hS⟩ ?turn ?after⟩
    case b1 =>
      rw [List.length_map]
      split <;> split <;> omega
    case b2 =>
      rw [List.length_map]
      split <;> split <;> omega
    case turn =>
      rintro i σ H' hi ⟨v, rfl, hT', hS'⟩
      refine ⟨_, rfl, _, rfl, a, ns, i, (by rw [Int.zero_add]; rfl), hS', fun p x y np => ?_⟩
      have sp := same_upd (o := .lst [.int x, .int y, .int 0]) np
      refine ⟨p, rfl, ⟨_, _, _, upd_same⟩, hT'.ext sp, fun H2 d2 t2 e2 => ⟨true, rfl, ?_⟩⟩
      refine ⟨_, rfl, t2, ?_⟩
      rcases hS' with (h | ⟨o, h⟩) | h
      · exact sqL_eb (ne_of_none h np) e2 (sqL_same sp (.inl (.inl h)))
      · exact sqL_eb (ne_of_none h np) e2 (sqL_same sp (.inl (.inr ⟨o, h⟩)))
      · exact .inr h
    case after =>
      rintro σ H' ⟨v, rfl, hT', _⟩
      have arg : ∀ {G : Hp}, Arg K G (.ref e0) (some []) := .yes (.tup (z0 _) .nil) (fun d hd => by cases hd) (by decide)
      have bad : ∀ {Z : Prop}, goodO (some []) = false → Z := fun z => by
        rw [show goodO (some []) = true by decide +kernel] at z
        cases z
      refine mk_argR (o := some []) arg (fun z e g H1 b1 s1 nb1 fb1 => ?_) (fun z => bad z)
      cases e
      rw [sortD_nil] at fb1
      obtain ⟨p1, ⟨dx1, fa1⟩, dd1⟩ := fb1
      refine ⟨rfl, b1, dx1, _, rfl, fa1, b1, [], rfl, ⟨p1, ⟨dx1, fa1⟩, dd1⟩, by decide, _, rfl, ?_⟩
      refine mk_argR (o := some []) arg (fun z e g H2 b2 s2 nb2 fb2 => ?_) (fun z => bad z)
      cases e
      rw [sortD_nil] at fb2
      obtain ⟨p2, ⟨dx2, fa2⟩, dd2⟩ := fb2
      refine ⟨rfl, b2, dx2, _, rfl, fa2, b2, [], rfl, ⟨p2, ⟨dx2, fa2⟩, dd2⟩, _, rfl, ?_⟩
      refine mk_argR (o := some []) arg (fun z e g H3 b3 s3 nb3 fb3 => ?_) (fun z => bad z)
      cases e
      rw [sortD_nil] at fb3
      obtain ⟨p3, ⟨dx3, fa3⟩, dd3⟩ := fb3
      refine ⟨rfl, b3, dx3, _, rfl, fa3, b3, [], rfl, ⟨p3, ⟨dx3, fa3⟩, dd3⟩, fun p4 f4 d4 => ?_⟩
      refine ⟨by show 6 ≤ sizeLine; decide, fun l5 n5 => ?_⟩
      have s5 := same_upd (o := .lst [.ref ah, .int 60, .int 20, .str (textOf ([] : List PyData).length), .bl (!([] : List PyData).isEmpty), .ref p4]) n5
      have t5 : Tabs T _ := (((hT'.ext s1).ext s2).ext s3).ext s5
      refine ⟨_, rfl, by show 3 ≤ sizeLine; decide, fun l6 n6 => ?_⟩
      have s6 := same_upd (o := .tup [.str "child", .str "left", .str "right"]) n6
      refine ⟨by show 0 ≤ sizeLine; exact Nat.zero_le _, fun l7 n7 => ?_⟩
      have s7 := same_upd (o := .tup []) n7
      refine ⟨by show 6 ≤ sizeLine; decide, fun l8 n8 => ?_⟩
      have s8 := same_upd (o := .lst [.ref l6, .int 60, .int 20, .str "filter of 0 bars", .bl false, .ref l7]) n8
      have hw : ∀ {G : Hp}, DpAll K G [.str "child", .str "left", .str "right"] [.str "child", .str "left", .str "right"] := .cons (.str _) (.cons (.str _) (.cons (.str _) .nil))
      have s68 := (s6.trans s7).trans s8
      refine ⟨.list [.tuple [.str "child", .str "left", .str "right"], .int 60, .int 20, .str (textOf 0), .bool false, .tuple []], .list [.tuple [.str "child", .str "left", .str "right"], .int 60, .int 20, .str "filter of 0 bars", .bool false, .tuple []],
        .lst (SqL.of (s68 _ _ upd_same)) (.cons (.tup (sh _) hw) (.cons (.int 60) (.cons (.int 20) (.cons (.str _) (.cons (.bl _) (.cons (dp_same (s5.trans s68) _ _ d4) .nil)))))),
        .lst (SqL.of upd_same) (.cons (.tup (SqT.of ((s7.trans s8) _ _ upd_same)) hw) (.cons (.int 60) (.cons (.int 20) (.cons (.str _) (.cons (.bl _) (.cons (.tup (SqT.of (s8 _ _ upd_same)) .nil) .nil)))))), rfl, rfl, by decide +kernel, _, rfl, ?_⟩
      rw [if_pos rfl, show (!(PyData.list [.tuple [.str "child", .str "left", .str "right"], .int 60, .int 20, .str (textOf 0), .bool false, .tuple []]).eqv (.list [.tuple [.str "child", .str "left", .str "right"], .int 60, .int 20, .str "filter of 0 bars", .bool false, .tuple []])) = false by decide +kernel]
      refine ite2 (fun h => by cases h) (fun _ => ?_)
      have t8 := t5.ext s68
      have okt : ∀ (o n : Str) (i : Int), o.length ≤ 10000 → n.length ≤ 10000 → okB (kid (tri o i n)) := fun o n i h1 h2 es e => by
        cases e
        intro x hx
        simp only [List.mem_cons, List.not_mem_nil, or_false] at hx
        rcases hx with rfl | rfl | rfl | rfl
        · exact fun z e => by cases e; decide +kernel
        · exact fun z e => by cases e; exact h1
        · exact fun z e => by cases e
        · exact fun z e => by cases e; exact h2
      have tr : ∀ {G : Hp} (o n : Str) (i : Int), DpAll K G [.str o, .int i, .str n] [.str o, .int i, .str n] := fun o n i => .cons (.str _) (.cons (.int i) (.cons (.str _) .nil))
      refine ⟨rfl, by show 3 ≤ sizeLine; decide, fun a9 n9 => ?_⟩
      have s9 := same_upd (o := .tup [.str "neg", .int 1, .str "plus"]) n9
      refine ⟨by show 3 ≤ sizeLine; decide, fun a10 n10 => ?_⟩
      have s10 := same_upd (o := .tup [.str "a", .int 0, .str "b"]) n10
      refine ⟨by show 3 ≤ sizeLine; decide, fun a11 n11 => ?_⟩
      have s11 := same_upd (o := .tup [.str "a", .int 0, .str "a"]) n11
      dsimp only [tNil]
      refine star_of (ds := three) (.cons (.tup (SqT.of ((s10.trans s11) _ _ upd_same)) (tr "neg" "plus" 1)) (.cons (.tup (SqT.of (s11 _ _ upd_same)) (tr "a" "b" 0)) (.cons (.tup (SqT.of upd_same) (tr "a" "a" 0)) .nil))) (by decide) (fun d hd => ?_) (fun es he => ?_) (fun _ _ H12 b12 s12 fb12 => ?_) (fun z => ?_)
      · simp only [List.mem_cons, List.not_mem_nil, or_false] at hd
        rcases hd with rfl | rfl | rfl
        · exact okt "neg" "plus" 1 (by decide +kernel) (by decide +kernel)
        · exact okt "a" "b" 0 (by decide +kernel) (by decide +kernel)
        · exact okt "a" "a" 0 (by decide +kernel) (by decide +kernel)
      · simp only [List.mem_cons, List.not_mem_nil, or_false] at he
        rcases he with h | h | h <;> (cases h; exact (by decide : 3 ≤ 60))
      rotate_left
      · rcases z with z | z
        · cases z
        · rw [three_good] at z
          cases z
      rw [three_sorted] at fb12
      obtain ⟨p12, ⟨dx12, fa12⟩, dd12⟩ := fb12
      have t12 : Tabs T H12 := t8.ext (((s9.trans s10).trans s11).trans s12)
      refine ⟨_, rfl, b12, dx12, _, rfl, fa12, b12, threeB, rfl, ⟨p12, ⟨dx12, fa12⟩, dd12⟩, fun p13 f13 d13 => ?_⟩
      refine ⟨by show 4 ≤ sizeLine; decide, fun a14 n14 => ?_⟩
      have s14 := same_upd (o := .tup [.str "child", .str "a", .int 0, .str "a"]) n14
      refine ⟨by show 4 ≤ sizeLine; decide, fun a15 n15 => ?_⟩
      have s15 := same_upd (o := .tup [.str "child", .str "a", .int 0, .str "b"]) n15
      refine ⟨by show 4 ≤ sizeLine; decide, fun a16 n16 => ?_⟩
      have s16 := same_upd (o := .tup [.str "child", .str "neg", .int 1, .str "plus"]) n16
      refine ⟨by show 3 ≤ sizeLine; decide, fun a17 n17 => ?_⟩
      have s17 := same_upd (o := .tup [.ref a14, .ref a15, .ref a16]) n17
      have b4 : ∀ {G : Hp} (o n : Str) (i : Int), DpAll K G [.str "child", .str o, .int i, .str n] [.str "child", .str o, .int i, .str n] := fun o n i => .cons (.str _) (.cons (.str _) (.cons (.int i) (.cons (.str _) .nil)))
      have abB : ∀ d ∈ threeB, barB d = true := by decide +kernel
      refine ⟨.tuple threeB, .tuple threeB, dp_same (((s14.trans s15).trans s16).trans s17) _ _ d13, .tup (SqT.of upd_same) (.cons (.tup (SqT.of (((s15.trans s16).trans s17) _ _ upd_same)) (b4 "a" "a" 0)) (.cons (.tup (SqT.of ((s16.trans s17) _ _ upd_same)) (b4 "a" "b" 0)) (.cons (.tup (SqT.of (s17 _ _ upd_same)) (b4 "neg" "plus" 1)) .nil))), rfl, rfl, by decide +kernel, _, rfl, ?_⟩
      rw [if_pos rfl, show (!(PyData.tuple threeB).eqv (.tuple threeB)) = false by decide +kernel]
      refine ite2 (fun h => by cases h) (fun _ => ?_)
      exact qK _ a _ _ _ _ (t12.ext (((s14.trans s15).trans s16).trans s17)) fin
end
end LR
set_option Elab.async false
set_option linter.all false
set_option maxRecDepth 100000
set_option maxHeartbeats 4000000
namespace LR
open PySem PySem.Spec PyProof.Rows L2 CG SN KD OW LamX StX ClX
open PySem.W (kitOne Frag exmOne findIn keepIn codeIn excIn subIn typeIn nsIn)
def cutK (K : Frag) (p q : Addr) : Frag := K.filter fun z => !(z.1 == p) && !(z.1 == q)
theorem cut_look {p q b : Addr} : ∀ {K : Frag}, (cutK K p q).lookup b = if b = p ∨ b = q then none else K.lookup b
  | [] => by unfold cutK; simp
  | (a, o) :: K => by
    have ih := cut_look (p := p) (q := q) (b := b) (K := K)
    unfold cutK at ih ⊢
    by_cases ha : a = p ∨ a = q
    · have e : (!(a == p) && !(a == q)) = false := by
        rcases ha with h | h <;> simp [h]
      rw [List.filter_cons, e, if_neg Bool.false_ne_true, ih]
      by_cases hb : b = p ∨ b = q
      · rw [if_pos hb, if_pos hb]
      · rw [if_neg hb, if_neg hb]
        have : b ≠ a := fun h => hb (h ▸ ha)
        rw [List.lookup_cons, show (b == a) = false from beq_false_of_ne this]
    · have e : (!(a == p) && !(a == q)) = true := by
        rw [not_or] at ha
        simp [ha.1, ha.2]
      rw [List.filter_cons, e, if_pos rfl, List.lookup_cons, List.lookup_cons, ih]
      by_cases hba : b = a
      · subst hba
        simp [ha]
      · rw [show (b == a) = false from beq_false_of_ne hba]
theorem cut_up {K : Frag} {p q b : Addr} {o : Obj} (n1 : b ≠ p) (n2 : b ≠ q) (e : K.lookup b = some o) : (cutK K p q).lookup b = some o := by
  rw [cut_look, if_neg (fun z => z.elim n1 n2)]
  exact e
theorem cut_in {K : Frag} {p q : Addr} {h : Heap} (X : K.In h) : (cutK K p q).In h := fun b o e => by
  rw [cut_look] at e
  split at e
  · cases e
  · exact X b o e
theorem cut_l {K : Frag} {p q : Addr} : (cutK K p q).lookup p = none := by rw [cut_look, if_pos (.inl rfl)]
theorem cut_r {K : Frag} {p q : Addr} : (cutK K p q).lookup q = none := by rw [cut_look, if_pos (.inr rfl)]
/-- the table of the code object at c -/
def refOf : Option Value → Option Addr
  | some (Value.ref p) => some p
  | _ => none
def tabAt (K : Frag) (c : Addr) : Option Addr := match K.lookup c with
  | some o => (match o.data with
    | Data.fields vs => refOf (vs[11]?)
    | _ => none)
  | none => none
def defB (K : Frag) (p q : Addr) (x : Addr × Value × Str) : Bool := !(x.1 == p) && !(x.1 == q) && codeIn K x.2.1 x.2.2 && keepIn K (.ref x.1)
def defsB (K : Frag) (p q : Addr) (l : List (Addr × Value × Str)) : Bool := l.all (defB K p q)
theorem defB_of {K : Frag} {p q f : Addr} {cd : Value} {n : Str} (h : defB K p q (f, cd, n) = true) : f ≠ p ∧ f ≠ q ∧ codeIn K cd n = true ∧ keepIn K (.ref f) = true := by
  unfold defB at h
  simp only [Bool.and_eq_true, Bool.not_eq_true', beq_eq_false_iff_ne] at h
  exact ⟨h.1.1.1, h.1.1.2, h.1.2, h.2⟩
def nonesB (K : Frag) : Bool := ["isinstance", "str", "tuple", "len", "list", "range", "repr", "int", "abs", "max", "min", "all", "bool", "set", "sorted"].all fun n => nsIn K mainGlobals (Str.ofString n) == some none
theorem nones_of {K : Frag} (h : nonesB K = true) {n : String} (m : n ∈ ["isinstance", "str", "tuple", "len", "list", "range", "repr", "int", "abs", "max", "min", "all", "bool", "set", "sorted"]) : nsIn K mainGlobals (Str.ofString n) = some none := by
  have z := List.all_eq_true.mp h n m
  exact beq_iff_eq.mp z
def recG (K : Frag) (p : Addr) (T : String) : Option Addr := match PySem.W.recIn K p T with
  | some (.ref g :: _) => some g
  | _ => none
theorem recG_of {K : Frag} {p g : Addr} {T : String} (h : recG K p T = some g) : ∃ rest, PySem.W.recIn K p T = some (.ref g :: rest) := by
  unfold recG at h
  split at h
  · rename_i e
    cases h
    exact ⟨_, e⟩
  · cases h
def methB (K : Frag) (CF : Addr) (x : Str × Addr) : Bool := (findIn K (.ref CF) x.1 == some (some (.ref x.2))) && PySem.W.isFn K (.ref x.2) && PySem.W.fnIn K x.2
def methsB (K : Frag) (CF : Addr) (l : List (Str × Addr)) : Bool := l.all (methB K CF)
theorem methB_of {K : Frag} {CF f : Addr} {n : Str} (h : methB K CF (n, f) = true) : findIn K (.ref CF) n = some (some (.ref f)) ∧ PySem.W.isFn K (.ref f) = true := by
  unfold methB at h
  simp only [Bool.and_eq_true, beq_iff_eq] at h
  exact ⟨h.1.1, h.1.2⟩
def fcTys : List Value := [.type "NoneType", .type "bool", .type "int", .type "str", .type "list", .type "tuple"]
def fcB (K : Frag) (CF : Addr) : Bool := PySem.W.plainGet K CF Str.empty && PySem.W.hasDictIn K CF && PySem.W.plainOver K CF && (findIn K (.ref CF) "__setattr__" == some (some (.builtin "object.__setattr__"))) && (findIn K (.ref CF) "_bars" == some none) &&
  (findIn K (.ref CF) "__class__" == some (some (.builtin "object.__class__"))) && (PySem.W.specialIn K (.builtin "object.__class__") "__get__" == some (some (.builtin "getset_descriptor.__get__"))) && (PySem.W.takesIn K (.builtin "object.__class__") == some true) &&
  (PySem.W.mroIn K CF (.type "object") == some true) && (fcTys.all fun t => (kitOne K t (.ref CF) == some false) && PySem.W.notFirst K CF t) && PySem.W.selfFirst K CF && PySem.W.makesIn K CF && keepIn K (.ref CF) && (findIn K (.ref CF) "__ne__" == some (some (.builtin "object.__ne__"))) &&
  (findIn K (.ref CF) "is_part_of").isSome
theorem fcB_of {K : Frag} {mg : Str → Option Value} {CF : Addr} (g : mg "Filter" = some (.ref CF)) (h : fcB K CF = true) : Fc K mg CF ∧ PySem.W.makesIn K CF = true ∧ keepIn K (.ref CF) = true ∧ findIn K (.ref CF) "__ne__" = some (some (.builtin "object.__ne__")) := by
  unfold fcB at h
  simp only [Bool.and_eq_true, beq_iff_eq] at h
  obtain ⟨⟨⟨⟨⟨⟨⟨⟨⟨⟨⟨⟨⟨⟨h1, h2⟩, h3⟩, h4⟩, h5⟩, h6⟩, h7⟩, h8⟩, h9⟩, h10⟩, h11⟩, h12⟩, h13⟩, h14⟩, h15⟩ := h
  refine ⟨⟨g, ⟨h1, h2, h3, h4⟩, h5, h6, h7, h8, h9, fun t ht => ?_, h11⟩, h12, h13, h14⟩
  have z := List.all_eq_true.mp h10 t ht
  simp only [Bool.and_eq_true, beq_iff_eq] at z
  exact z
def isCm (x : Option PySem.W.CFound) (pK CF : Addr) : Bool := match x with
  | some (.get (.builtin s) (.ref p) .none (.ref c)) => s == "classmethod.__get__" && p == pK && c == CF
  | _ => false
theorem isCm_of {x : Option PySem.W.CFound} {pK CF : Addr} (h : isCm x pK CF = true) : x = some (.get (.builtin "classmethod.__get__") (.ref pK) .none (.ref CF)) := by
  unfold isCm at h
  split at h
  · simp only [Bool.and_eq_true, beq_iff_eq] at h
    obtain ⟨⟨rfl, rfl⟩, rfl⟩ := h
    rfl
  · cases h
def prB (K : Frag) (CF pB fB pK fK : Addr) : Bool := (findIn K (.ref CF) "bars" == some (some (.ref pB))) && (PySem.W.specialIn K (.ref pB) "__get__" == some (some (.builtin "property.__get__"))) && (PySem.W.takesIn K (.ref pB) == some true) && (recG K pB "property" == some fB) &&
  PySem.W.readsIn K CF (.type "type") && (PySem.W.specialIn K (.ref CF) "__getattribute__" == some (some (.builtin "type.__getattribute__"))) && isCm (PySem.W.findCls K (.ref CF) (.type "type") "children") pK CF && (recG K pK "classmethod" == some fK) && PySem.W.fnIn K fK
theorem prB_of {K : Frag} {CF pB fB pK fK : Addr} (h : prB K CF pB fB pK fK = true) : PropOf K CF "bars" pB fB ∧ CRead K CF (.type "type") ∧ CMet K CF (.type "type") "children" pK fK := by
  unfold prB at h
  simp only [Bool.and_eq_true, beq_iff_eq, decide_eq_true_eq] at h
  obtain ⟨⟨⟨⟨⟨⟨⟨⟨h1, h2⟩, h3⟩, h4⟩, h5⟩, h6⟩, h7⟩, h8⟩, h9⟩ := h
  exact ⟨⟨h1, h2, h3, recG_of h4⟩, ⟨h5, h6⟩, ⟨isCm_of h7, recG_of h8, h9⟩⟩
def xcB (K : Frag) (c : Addr) : Bool := excIn K c [.type "ValueError", .type "Exception", .type "BaseException", .type "object"] "ValueError.__new__" && keepIn K (.ref c) && (subIn K (.ref c) (.type "BaseException") == some true) && (typeIn K (.ref c) == some (.type "type"))
theorem xcB_of {K : Frag} {mg : Str → Option Value} {n : Str} {c : Addr} (g : mg n = some (.ref c)) (h : xcB K c = true) : Xc K mg n c := by
  unfold xcB at h
  simp only [Bool.and_eq_true, beq_iff_eq] at h
  obtain ⟨⟨⟨h1, h2⟩, h3⟩, h4⟩ := h
  exact ⟨g, h1, h2, h3, h4⟩
def exB (K : Frag) (cI cO : Addr) : Bool := (exmOne K (.ref cI) (.ref cI) == some true) && (exmOne K (.ref cO) (.ref cO) == some true) && (exmOne K (.ref cI) (.ref cO) == some false)
def opB (K : Frag) (CF : Addr) (nm : String) : Bool := (findIn K (.ref CF) (dunderR nm) == some none) && bnames.all fun T => (findIn K (.type T) (PySem.dunder nm)).isSome && (findIn K (.type T) (dunderR nm)).isSome && (subIn K (.type T) (.ref CF) == some false)
theorem opB_of {K : Frag} {CF : Addr} {nm : String} (h : opB K CF nm = true) : findIn K (.ref CF) (dunderR nm) = some none ∧ ∀ T ∈ bnames, Rt K CF nm T := by
  unfold opB at h
  simp only [Bool.and_eq_true, beq_iff_eq] at h
  refine ⟨h.1, fun T hT => ?_⟩
  have z := List.all_eq_true.mp h.2 T hT
  simp only [Bool.and_eq_true, beq_iff_eq] at z
  obtain ⟨⟨z1, z2⟩, z3⟩ := z
  exact ⟨Option.isSome_iff_exists.mp z1, Option.isSome_iff_exists.mp z2, z3⟩
theorem all_mk {P : Program} {w : World} {K : Frag} {h : Heap} {mg : Str → Option Value} {fa : Addr} (X : K.In h) (G : h.Ns mainGlobals mg) (hfa : mg "law" = some (.ref fa))
    {fSm fWo fNa fIg fIx fBo fIb fDi fRo fPi fSo fIl fBa fBe fMa fDu fTr fWd fPr fRi fLa fmP fmC fmL fmB fmE fmS fmO fmA fmX fmG fmK fmI CF cI cO cPr cLa pPr pLa oA hA pB pK dT e0 : Addr} {odSm anSm odWo anWo odNa anNa odIg anIg odIx anIx odBo anBo odIb anIb odDi anDi odRo anRo odPi anPi odSo anSo odIl anIl odBa anBa odBe anBe odMa anMa odDu anDu odTr anTr odWd anWd odPr anPr odRi anRi odLa anLa odmP anmP odmC anmC odmL anmL odmB anmB odmE anmE odmS anmS odmO anmO odmA anmA odmX anmX odmG anmG odmK anmK odmI anmI ddO ddH ddT ddE : Option Addr} {slSm slWo slNa slIg slIx slBo slIb slDi slRo slPi slSo slIl slBa slBe slMa slDu slTr slWd slPr slRi slLa slmP slmC slmL slmB slmE slmS slmO slmA slmX slmG slmK slmI slO slH slT slE : Array (Option Value)} {ocSm dcSm pmSm ctSm kVSm cdSm ocWo dcWo pmWo ctWo kVWo cdWo ocNa dcNa pmNa ctNa kVNa cdNa ocIg dcIg pmIg ctIg kVIg cdIg ocIx dcIx pmIx ctIx kVIx cdIx ocBo dcBo pmBo ctBo kVBo cdBo ocIb dcIb pmIb ctIb kVIb cdIb ocDi dcDi pmDi ctDi kVDi cdDi ocRo dcRo pmRo ctRo kVRo cdRo ocPi dcPi pmPi ctPi kVPi cdPi ocSo dcSo pmSo ctSo kVSo cdSo ocIl dcIl pmIl ctIl kVIl cdIl ocBa dcBa pmBa ctBa kVBa cdBa ocBe dcBe pmBe ctBe kVBe cdBe ocMa dcMa pmMa ctMa kVMa cdMa ocDu dcDu pmDu ctDu kVDu cdDu ocTr dcTr pmTr ctTr kVTr cdTr ocWd dcWd pmWd ctWd kVWd cdWd ocPr dcPr pmPr ctPr kVPr ocRi dcRi pmRi ctRi kVRi cdRi ocLa dcLa pmLa ctLa kVLa ocmP dcmP pmmP ctmP kVmP cdmP ocmC dcmC pmmC ctmC kVmC cdmC ocmL dcmL pmmL ctmL kVmL cdmL ocmB dcmB pmmB ctmB kVmB cdmB ocmE dcmE pmmE ctmE kVmE cdmE ocmS dcmS pmmS ctmS kVmS cdmS ocmO dcmO pmmO ctmO kVmO cdmO ocmA dcmA pmmA ctmA kVmA cdmA ocmX dcmX pmmX ctmX kVmX cdmX ocmG dcmG pmmG ctmG kVmG cdmG ocmK dcmK pmmK ctmK kVmK cdmK ocmI dcmI pmmI ctmI kVmI cdmI : Value} {tSm tMl tMb tBy tBs tTs t1 t2 t3 t4 t5 : Tok} {nO nH nT nE : Nat} {rsB rsK : List Value}
    (aSm : nsIn K mainGlobals "has_small_letters" = some (some (.ref fSm)))
    (lSm : K.lookup fSm = some ⟨ocSm, odSm, .func (PySem.W.fnOf "has_small_letters" "has_small_letters" (defArgs sSmall) (defBody sSmall) (defScope sSmall) .none kVSm dcSm pmSm anSm cdSm ctSm), slSm⟩)
    (aWo : nsIn K mainGlobals "is_word" = some (some (.ref fWo)))
    (lWo : K.lookup fWo = some ⟨ocWo, odWo, .func (PySem.W.fnOf "is_word" "is_word" (defArgs sWord) (defBody sWord) (defScope sWord) .none kVWo dcWo pmWo anWo cdWo ctWo), slWo⟩)
    (aNa : nsIn K mainGlobals "is_name" = some (some (.ref fNa)))
    (lNa : K.lookup fNa = some ⟨ocNa, odNa, .func (PySem.W.fnOf "is_name" "is_name" (defArgs sName) (defBody sName) (defScope sName) .none kVNa dcNa pmNa anNa cdNa ctNa), slNa⟩)
    (aIg : nsIn K mainGlobals "is_integer" = some (some (.ref fIg)))
    (lIg : K.lookup fIg = some ⟨ocIg, odIg, .func (PySem.W.fnOf "is_integer" "is_integer" (defArgs sInteger) (defBody sInteger) (defScope sInteger) .none kVIg dcIg pmIg anIg cdIg ctIg), slIg⟩)
    (aIx : nsIn K mainGlobals "is_index" = some (some (.ref fIx)))
    (lIx : K.lookup fIx = some ⟨ocIx, odIx, .func (PySem.W.fnOf "is_index" "is_index" (defArgs sIndex) (defBody sIndex) (defScope sIndex) .none kVIx dcIx pmIx anIx cdIx ctIx), slIx⟩)
    (aBo : nsIn K mainGlobals "is_bar_of" = some (some (.ref fBo)))
    (lBo : K.lookup fBo = some ⟨ocBo, odBo, .func (PySem.W.fnOf "is_bar_of" "is_bar_of" (defArgs sBarOf) (defBody sBarOf) (defScope sBarOf) .none kVBo dcBo pmBo anBo cdBo ctBo), slBo⟩)
    (aIb : nsIn K mainGlobals "is_bar" = some (some (.ref fIb)))
    (lIb : K.lookup fIb = some ⟨ocIb, odIb, .func (PySem.W.fnOf "is_bar" "is_bar" (defArgs sIsBar) (defBody sIsBar) (defScope sIsBar) .none kVIb dcIb pmIb anIb cdIb ctIb), slIb⟩)
    (aDi : nsIn K mainGlobals "_law_dice" = some (some (.ref fDi)))
    (lDi : K.lookup fDi = some ⟨ocDi, odDi, .func (PySem.W.fnOf "_law_dice" "_law_dice" (defArgs sDice) (defBody sDice) (defScope sDice) .none kVDi dcDi pmDi anDi cdDi ctDi), slDi⟩)
    (aRo : nsIn K mainGlobals "_law_roll" = some (some (.ref fRo)))
    (lRo : K.lookup fRo = some ⟨ocRo, odRo, .func (PySem.W.fnOf "_law_roll" "_law_roll" (defArgs sRoll) (defBody sRoll) (defScope sRoll) .none kVRo dcRo pmRo anRo cdRo ctRo), slRo⟩)
    (aPi : nsIn K mainGlobals "_law_pick" = some (some (.ref fPi)))
    (lPi : K.lookup fPi = some ⟨ocPi, odPi, .func (PySem.W.fnOf "_law_pick" "_law_pick" (defArgs sPick) (defBody sPick) (defScope sPick) .none kVPi dcPi pmPi anPi cdPi ctPi), slPi⟩)
    (aSo : nsIn K mainGlobals "_law_some" = some (some (.ref fSo)))
    (lSo : K.lookup fSo = some ⟨ocSo, odSo, .func (PySem.W.fnOf "_law_some" "_law_some" (defArgs sSome) (defBody sSome) (defScope sSome) .none kVSo dcSo pmSo anSo cdSo ctSo), slSo⟩)
    (aIl : nsIn K mainGlobals "_law_is_bar" = some (some (.ref fIl)))
    (lIl : K.lookup fIl = some ⟨ocIl, odIl, .func (PySem.W.fnOf "_law_is_bar" "_law_is_bar" (defArgs sIsBarL) (defBody sIsBarL) (defScope sIsBarL) .none kVIl dcIl pmIl anIl cdIl ctIl), slIl⟩)
    (aBa : nsIn K mainGlobals "_law_bar" = some (some (.ref fBa)))
    (lBa : K.lookup fBa = some ⟨ocBa, odBa, .func (PySem.W.fnOf "_law_bar" "_law_bar" (defArgs sBar) (defBody sBar) (defScope sBar) .none kVBa dcBa pmBa anBa cdBa ctBa), slBa⟩)
    (aBe : nsIn K mainGlobals "_law_bent" = some (some (.ref fBe)))
    (lBe : K.lookup fBe = some ⟨ocBe, odBe, .func (PySem.W.fnOf "_law_bent" "_law_bent" (defArgs sBent) (defBody sBent) (defScope sBent) .none kVBe dcBe pmBe anBe cdBe ctBe), slBe⟩)
    (aMa : nsIn K mainGlobals "_law_made_of" = some (some (.ref fMa)))
    (lMa : K.lookup fMa = some ⟨ocMa, odMa, .func (PySem.W.fnOf "_law_made_of" "_law_made_of" (defArgs sMade) (defBody sMade) (defScope sMade) .none kVMa dcMa pmMa anMa cdMa ctMa), slMa⟩)
    (aDu : nsIn K mainGlobals "_law_due" = some (some (.ref fDu)))
    (lDu : K.lookup fDu = some ⟨ocDu, odDu, .func (PySem.W.fnOf "_law_due" "_law_due" (defArgs sDue) (defBody sDue) (defScope sDue) .none kVDu dcDu pmDu anDu cdDu ctDu), slDu⟩)
    (aTr : nsIn K mainGlobals "_law_told_right" = some (some (.ref fTr)))
    (lTr : K.lookup fTr = some ⟨ocTr, odTr, .func (PySem.W.fnOf "_law_told_right" "_law_told_right" (defArgs sToldR) (defBody sToldR) (defScope sToldR) .none kVTr dcTr pmTr anTr cdTr ctTr), slTr⟩)
    (aWd : nsIn K mainGlobals "_law_word" = some (some (.ref fWd)))
    (lWd : K.lookup fWd = some ⟨ocWd, odWd, .func (PySem.W.fnOf "_law_word" "_law_word" (defArgs sWordL) (defBody sWordL) (defScope sWordL) .none kVWd dcWd pmWd anWd cdWd ctWd), slWd⟩)
    (aPr : nsIn K mainGlobals "_law_pair_right" = some (some (.ref fPr)))
    (lPr : K.lookup fPr = some ⟨ocPr, odPr, .func (PySem.W.fnOf "_law_pair_right" "_law_pair_right" (defArgs sPair) (defBody sPair) (defScope sPair) .none kVPr dcPr pmPr anPr (.ref cPr) ctPr), slPr⟩)
    (aRi : nsIn K mainGlobals "_law_right" = some (some (.ref fRi)))
    (lRi : K.lookup fRi = some ⟨ocRi, odRi, .func (PySem.W.fnOf "_law_right" "_law_right" (defArgs sRight) (defBody sRight) (defScope sRight) .none kVRi dcRi pmRi anRi cdRi ctRi), slRi⟩)
    (aLa : nsIn K mainGlobals "law" = some (some (.ref fLa)))
    (lLa : K.lookup fLa = some ⟨ocLa, odLa, .func (PySem.W.fnOf "law" "law" (defArgs sLaw) (defBody sLaw) (defScope sLaw) .none kVLa dcLa pmLa anLa (.ref cLa) ctLa), slLa⟩)
    (aF : nsIn K mainGlobals "Filter" = some (some (.ref CF)))
    (aI : nsIn K mainGlobals "InvalidFilter" = some (some (.ref cI)))
    (aX : nsIn K mainGlobals "InvalidOperation" = some (some (.ref cO)))
    (jmP : findIn K (.ref CF) "is_part_of" = some (some (.ref fmP)))
    (lmP : K.lookup fmP = some ⟨ocmP, odmP, .func (PySem.W.fnOf "is_part_of" "Filter.is_part_of" (defArgs mPart) (defBody mPart) (defScope mPart) .none kVmP dcmP pmmP anmP cdmP ctmP), slmP⟩)
    (jmC : findIn K (.ref CF) "__contains__" = some (some (.ref fmC)))
    (lmC : K.lookup fmC = some ⟨ocmC, odmC, .func (PySem.W.fnOf "__contains__" "Filter.__contains__" (defArgs mContains) (defBody mContains) (defScope mContains) .none kVmC dcmC pmmC anmC cdmC ctmC), slmC⟩)
    (jmL : findIn K (.ref CF) "__len__" = some (some (.ref fmL)))
    (lmL : K.lookup fmL = some ⟨ocmL, odmL, .func (PySem.W.fnOf "__len__" "Filter.__len__" (defArgs mLen) (defBody mLen) (defScope mLen) .none kVmL dcmL pmmL anmL cdmL ctmL), slmL⟩)
    (jmB : findIn K (.ref CF) "__bool__" = some (some (.ref fmB)))
    (lmB : K.lookup fmB = some ⟨ocmB, odmB, .func (PySem.W.fnOf "__bool__" "Filter.__bool__" (defArgs mBool) (defBody mBool) (defScope mBool) .none kVmB dcmB pmmB anmB cdmB ctmB), slmB⟩)
    (jmE : findIn K (.ref CF) "__eq__" = some (some (.ref fmE)))
    (lmE : K.lookup fmE = some ⟨ocmE, odmE, .func (PySem.W.fnOf "__eq__" "Filter.__eq__" (defArgs mEq) (defBody mEq) (defScope mEq) .none kVmE dcmE pmmE anmE cdmE ctmE), slmE⟩)
    (jmS : findIn K (.ref CF) "__str__" = some (some (.ref fmS)))
    (lmS : K.lookup fmS = some ⟨ocmS, odmS, .func (PySem.W.fnOf "__str__" "Filter.__str__" (defArgs mStr) (defBody mStr) (defScope mStr) .none kVmS dcmS pmmS anmS cdmS ctmS), slmS⟩)
    (jmO : findIn K (.ref CF) "__or__" = some (some (.ref fmO)))
    (lmO : K.lookup fmO = some ⟨ocmO, odmO, .func (PySem.W.fnOf "__or__" "Filter.__or__" (defArgs mOr) (defBody mOr) (defScope mOr) .none kVmO dcmO pmmO anmO cdmO ctmO), slmO⟩)
    (jmA : findIn K (.ref CF) "__and__" = some (some (.ref fmA)))
    (lmA : K.lookup fmA = some ⟨ocmA, odmA, .func (PySem.W.fnOf "__and__" "Filter.__and__" (defArgs mAnd) (defBody mAnd) (defScope mAnd) .none kVmA dcmA pmmA anmA cdmA ctmA), slmA⟩)
    (jmX : findIn K (.ref CF) "__sub__" = some (some (.ref fmX)))
    (lmX : K.lookup fmX = some ⟨ocmX, odmX, .func (PySem.W.fnOf "__sub__" "Filter.__sub__" (defArgs mSub) (defBody mSub) (defScope mSub) .none kVmX dcmX pmmX anmX cdmX ctmX), slmX⟩)
    (jB : findIn K (.ref CF) "bars" = some (some (.ref pB)))
    (rB : PySem.W.recIn K pB "property" = some (.ref fmG :: rsB))
    (lmG : K.lookup fmG = some ⟨ocmG, odmG, .func (PySem.W.fnOf "bars" "Filter.bars" (defArgs mBars) (defBody mBars) (defScope mBars) .none kVmG dcmG pmmG anmG cdmG ctmG), slmG⟩)
    (jK : findIn K (.ref CF) "children" = some (some (.ref pK)))
    (rK : PySem.W.recIn K pK "classmethod" = some (.ref fmK :: rsK))
    (lmK : K.lookup fmK = some ⟨ocmK, odmK, .func (PySem.W.fnOf "children" "Filter.children" (defArgs mChildren) (defBody mChildren) (defScope mChildren) .none kVmK dcmK pmmK anmK cdmK ctmK), slmK⟩)
    (jI : findIn K (.ref CF) "__init__" = some (some (.ref fmI)))
    (lmI : K.lookup fmI = some ⟨ocmI, odmI, .func (PySem.W.fnOf "__init__" "Filter.__init__" (defArgs mInit) (defBody mInit) (defScope mInit) (.ref dT) kVmI dcmI pmmI anmI cdmI ctmI), slmI⟩)
    (lT : K.lookup dT = some ⟨.type "tuple", ddT, .seq #[.ref e0] nT, slT⟩)
    (lE : K.lookup e0 = some ⟨.type "tuple", ddE, .seq #[] nE, slE⟩)
    (cSm : nsIn K mainGlobals "SMALL_LETTERS" = some (some (.str "abcdefghijklmnopqrstuvwxyz" tSm)))
    (cMl : nsIn K mainGlobals "MAX_LETTERS" = some (some (.int 8 tMl)))
    (cMb : nsIn K mainGlobals "MAX_BODY" = some (some (.int 5 tMb)))
    (cBy : nsIn K mainGlobals "BEYOND" = some (some (.int 1000000000000000000000000000000000000000000000000000000000000 tBy)))
    (cBs : nsIn K mainGlobals "MAX_BARS" = some (some (.int 60 tBs)))
    (cTs : nsIn K mainGlobals "MAX_TREES" = some (some (.int 20 tTs)))
    (aO : nsIn K mainGlobals "OTHER_ACTIONS" = some (some (.ref oA)))
    (lO : K.lookup oA = some ⟨.type "tuple", ddO, .seq #[.str "shift" t1, .str "accept" t2] nO, slO⟩)
    (aH : nsIn K mainGlobals "HOWS" = some (some (.ref hA)))
    (lH : K.lookup hA = some ⟨.type "tuple", ddH, .seq #[.str "child" t3, .str "left" t4, .str "right" t5] nH, slH⟩)
    (ePr : h.get? pPr = some { cls := .none, data := .fields #[] })
    (eLa : h.get? pLa = some { cls := .none, data := .fields #[] })
    (okD : defsB (cutK K pPr pLa) pPr pLa [(fSm, cdSm, Str.ofString "has_small_letters"), (fWo, cdWo, Str.ofString "is_word"), (fNa, cdNa, Str.ofString "is_name"), (fIg, cdIg, Str.ofString "is_integer"), (fIx, cdIx, Str.ofString "is_index"), (fBo, cdBo, Str.ofString "is_bar_of"), (fIb, cdIb, Str.ofString "is_bar"), (fDi, cdDi, Str.ofString "_law_dice"), (fRo, cdRo, Str.ofString "_law_roll"), (fPi, cdPi, Str.ofString "_law_pick"), (fSo, cdSo, Str.ofString "_law_some"), (fIl, cdIl, Str.ofString "_law_is_bar"), (fBa, cdBa, Str.ofString "_law_bar"), (fBe, cdBe, Str.ofString "_law_bent"), (fMa, cdMa, Str.ofString "_law_made_of"), (fDu, cdDu, Str.ofString "_law_due"), (fTr, cdTr, Str.ofString "_law_told_right"), (fWd, cdWd, Str.ofString "_law_word"), (fPr, (.ref cPr), Str.ofString "_law_pair_right"), (fRi, cdRi, Str.ofString "_law_right"), (fLa, (.ref cLa), Str.ofString "law"), (fmP, cdmP, Str.ofString "Filter.is_part_of"), (fmC, cdmC, Str.ofString "Filter.__contains__"), (fmL, cdmL, Str.ofString "Filter.__len__"), (fmB, cdmB, Str.ofString "Filter.__bool__"), (fmE, cdmE, Str.ofString "Filter.__eq__"), (fmS, cdmS, Str.ofString "Filter.__str__"), (fmO, cdmO, Str.ofString "Filter.__or__"), (fmA, cdmA, Str.ofString "Filter.__and__"), (fmX, cdmX, Str.ofString "Filter.__sub__"), (fmG, cdmG, Str.ofString "Filter.bars"), (fmK, cdmK, Str.ofString "Filter.children"), (fmI, cdmI, Str.ofString "Filter.__init__")] = true)
    (okM : methsB (cutK K pPr pLa) CF ([(Str.ofString "is_part_of", fmP), (Str.ofString "__contains__", fmC), (Str.ofString "__len__", fmL), (Str.ofString "__bool__", fmB), (Str.ofString "__eq__", fmE), (Str.ofString "__str__", fmS), (Str.ofString "__or__", fmO), (Str.ofString "__and__", fmA), (Str.ofString "__sub__", fmX)] ++ [(Str.ofString "__init__", fmI)]) = true)
    (okF : fcB (cutK K pPr pLa) CF = true)
    (okP : prB (cutK K pPr pLa) CF pB fmG pK fmK = true)
    (okX : (xcB (cutK K pPr pLa) cI && xcB (cutK K pPr pLa) cO && exB (cutK K pPr pLa) cI cO) = true)
    (okO : (opB (cutK K pPr pLa) CF "or" && opB (cutK K pPr pLa) CF "and" && opB (cutK K pPr pLa) CF "sub") = true)
    (okA : (nonesB K && PySem.W.codeHdIn (cutK K pPr pLa) cPr pPr && PySem.W.codeHdIn (cutK K pPr pLa) cLa pLa && !(pPr == pLa) && !(oA == pPr) && !(oA == pLa) && !(hA == pPr) && !(hA == pLa) && !(dT == pPr) && !(dT == pLa) && !(e0 == pPr) && !(e0 == pLa)) = true) :
    ∃ (K' : Frag) (fd : FuncData) (cs : List (Addr × Addr)) (sp : Sp), K'.In h ∧ (∀ p ∈ cs, h.get? p.2 = some { cls := .none, data := .fields #[] }) ∧ (∀ p ∈ cs, K'.lookup p.2 = none) ∧ (∀ p ∈ cs, PySem.W.CodeHd h p.1 p.2) ∧ (∀ (s : Shared) (v : Value), BindsTo s fd ⟨[v], []⟩ [("_law_script", v)]) ∧
      (∀ (H : Hp) (a : Addr) (ns : List Int), ns.length ≤ 63 → (∀ p ∈ cs, H p.2 = some (.tbl #[])) → SqL K' H a (ns.map V.int) → sp [.ref a] H (fun v _ => v = .bl true) E0) ∧
      ∀ base : Heap, K'.In base → base.Ns mainGlobals mg → (∀ p ∈ cs, TabB base mg p.1 p.2) → FnG P w K' mg base CX0 13 fa fd ["_law_script"] sp := by
  have e := hfa.symm.trans (PySem.W.mg_of X G aLa)
  cases e
  obtain ⟨K2, eK2⟩ : ∃ K2, K2 = cutK K pPr pLa := ⟨_, rfl⟩
  rw [← eK2] at okD okM okF okP okX okO okA
  have up : ∀ {b : Addr} {o : Obj}, b ≠ pPr → b ≠ pLa → K.lookup b = some o → K2.lookup b = some o := fun n1 n2 e => by rw [eK2]; exact cut_up n1 n2 e
  have X2 : K2.In h := by rw [eK2]; exact cut_in X
  unfold defsB at okD
  simp only [List.all_cons, List.all_nil, Bool.and_true, Bool.and_eq_true] at okD
  obtain ⟨uSm, uWo, uNa, uIg, uIx, uBo, uIb, uDi, uRo, uPi, uSo, uIl, uBa, uBe, uMa, uDu, uTr, uWd, uPr, uRi, uLa, umP, umC, umL, umB, umE, umS, umO, umA, umX, umG, umK, umI⟩ := okD
  unfold methsB at okM
  simp only [List.cons_append, List.nil_append, List.all_cons, List.all_nil, Bool.and_true, Bool.and_eq_true] at okM
  obtain ⟨ymP, ymC, ymL, ymB, ymE, ymS, ymO, ymA, ymX, ymI⟩ := okM
  have vSm := defB_of uSm
  have FSm := fun_mk (st := sSmall) (up vSm.1 vSm.2.1 lSm) vSm.2.2.1 vSm.2.2.2
  have bSm := FSm.binds (ps := ["text"]) fun _ _ _ _ _ _ us hl => match us, hl with | [_], _ => rfl
  have vWo := defB_of uWo
  have FWo := fun_mk (st := sWord) (up vWo.1 vWo.2.1 lWo) vWo.2.2.1 vWo.2.2.2
  have bWo := FWo.binds (ps := ["value"]) fun _ _ _ _ _ _ us hl => match us, hl with | [_], _ => rfl
  have vNa := defB_of uNa
  have FNa := fun_mk (st := sName) (up vNa.1 vNa.2.1 lNa) vNa.2.2.1 vNa.2.2.2
  have bNa := FNa.binds (ps := ["value"]) fun _ _ _ _ _ _ us hl => match us, hl with | [_], _ => rfl
  have vIg := defB_of uIg
  have FIg := fun_mk (st := sInteger) (up vIg.1 vIg.2.1 lIg) vIg.2.2.1 vIg.2.2.2
  have bIg := FIg.binds (ps := ["value"]) fun _ _ _ _ _ _ us hl => match us, hl with | [_], _ => rfl
  have vIx := defB_of uIx
  have FIx := fun_mk (st := sIndex) (up vIx.1 vIx.2.1 lIx) vIx.2.2.1 vIx.2.2.2
  have bIx := FIx.binds (ps := ["value", "many"]) fun _ _ _ _ _ _ us hl => match us, hl with | [_, _], _ => rfl
  have vBo := defB_of uBo
  have FBo := fun_mk (st := sBarOf) (up vBo.1 vBo.2.1 lBo) vBo.2.2.1 vBo.2.2.2
  have bBo := FBo.binds (ps := ["value", "hows"]) fun _ _ _ _ _ _ us hl => match us, hl with | [_, _], _ => rfl
  have vIb := defB_of uIb
  have FIb := fun_mk (st := sIsBar) (up vIb.1 vIb.2.1 lIb) vIb.2.2.1 vIb.2.2.2
  have bIb := FIb.binds (ps := ["value"]) fun _ _ _ _ _ _ us hl => match us, hl with | [_], _ => rfl
  have vDi := defB_of uDi
  have FDi := fun_mk (st := sDice) (up vDi.1 vDi.2.1 lDi) vDi.2.2.1 vDi.2.2.2
  have bDi := FDi.binds (ps := ["_law_script", "_law_spot"]) fun _ _ _ _ _ _ us hl => match us, hl with | [_, _], _ => rfl
  have vRo := defB_of uRo
  have FRo := fun_mk (st := sRoll) (up vRo.1 vRo.2.1 lRo) vRo.2.2.1 vRo.2.2.2
  have bRo := FRo.binds (ps := ["_law_dice_here", "_law_total"]) fun _ _ _ _ _ _ us hl => match us, hl with | [_, _], _ => rfl
  have vPi := defB_of uPi
  have FPi := fun_mk (st := sPick) (up vPi.1 vPi.2.1 lPi) vPi.2.2.1 vPi.2.2.2
  have bPi := FPi.binds (ps := ["_law_dice_here", "_law_items"]) fun _ _ _ _ _ _ us hl => match us, hl with | [_, _], _ => rfl
  have vSo := defB_of uSo
  have FSo := fun_mk (st := sSome) (up vSo.1 vSo.2.1 lSo) vSo.2.2.1 vSo.2.2.2
  have bSo := FSo.binds (ps := ["_law_dice_here", "_law_items", "_law_lots"]) fun _ _ _ _ _ _ us hl => match us, hl with | [_, _, _], _ => rfl
  have vIl := defB_of uIl
  have FIl := fun_mk (st := sIsBarL) (up vIl.1 vIl.2.1 lIl) vIl.2.2.1 vIl.2.2.2
  have bIl := FIl.binds (ps := ["_law_value"]) fun _ _ _ _ _ _ us hl => match us, hl with | [_], _ => rfl
  have vBa := defB_of uBa
  have FBa := fun_mk (st := sBar) (up vBa.1 vBa.2.1 lBa) vBa.2.2.1 vBa.2.2.2
  have bBa := FBa.binds (ps := ["_law_dice_here"]) fun _ _ _ _ _ _ us hl => match us, hl with | [_], _ => rfl
  have vBe := defB_of uBe
  have FBe := fun_mk (st := sBent) (up vBe.1 vBe.2.1 lBe) vBe.2.2.1 vBe.2.2.2
  have bBe := FBe.binds (ps := ["_law_dice_here", "_law_bar_here"]) fun _ _ _ _ _ _ us hl => match us, hl with | [_, _], _ => rfl
  have vMa := defB_of uMa
  have FMa := fun_mk (st := sMade) (up vMa.1 vMa.2.1 lMa) vMa.2.2.1 vMa.2.2.2
  have bMa := FMa.binds (ps := ["_law_value"]) fun _ _ _ _ _ _ us hl => match us, hl with | [_], _ => rfl
  have vDu := defB_of uDu
  have FDu := fun_mk (st := sDue) (up vDu.1 vDu.2.1 lDu) vDu.2.2.1 vDu.2.2.2
  have bDu := FDu.binds (ps := ["_law_value"]) fun _ _ _ _ _ _ us hl => match us, hl with | [_], _ => rfl
  have vTr := defB_of uTr
  have FTr := fun_mk (st := sToldR) (up vTr.1 vTr.2.1 lTr) vTr.2.2.1 vTr.2.2.2
  have bTr := FTr.binds (ps := ["_law_dice_here", "_law_bars", "_law_made"]) fun _ _ _ _ _ _ us hl => match us, hl with | [_, _, _], _ => rfl
  have vWd := defB_of uWd
  have FWd := fun_mk (st := sWordL) (up vWd.1 vWd.2.1 lWd) vWd.2.2.1 vWd.2.2.2
  have bWd := FWd.binds (ps := ["_law_call"]) fun _ _ _ _ _ _ us hl => match us, hl with | [_], _ => rfl
  have vPr := defB_of uPr
  have FPr := fun_mk (st := sPair) (up vPr.1 vPr.2.1 lPr) vPr.2.2.1 vPr.2.2.2
  have bPr := FPr.binds (ps := ["_law_dice_here", "_law_bars", "_law_others"]) fun _ _ _ _ _ _ us hl => match us, hl with | [_, _, _], _ => rfl
  have vRi := defB_of uRi
  have FRi := fun_mk (st := sRight) (up vRi.1 vRi.2.1 lRi) vRi.2.2.1 vRi.2.2.2
  have bRi := FRi.binds (ps := ["_law_dice_here"]) fun _ _ _ _ _ _ us hl => match us, hl with | [_], _ => rfl
  have vLa := defB_of uLa
  have FLa := fun_mk (st := sLaw) (up vLa.1 vLa.2.1 lLa) vLa.2.2.1 vLa.2.2.2
  have bLa := FLa.binds (ps := ["_law_script"]) fun _ _ _ _ _ _ us hl => match us, hl with | [_], _ => rfl
  have vmP := defB_of umP
  have FmP := fun_mk (st := mPart) (up vmP.1 vmP.2.1 lmP) vmP.2.2.1 vmP.2.2.2
  have bmP := FmP.binds (ps := ["self", "value"]) fun _ _ _ _ _ _ us hl => match us, hl with | [_, _], _ => rfl
  have vmC := defB_of umC
  have FmC := fun_mk (st := mContains) (up vmC.1 vmC.2.1 lmC) vmC.2.2.1 vmC.2.2.2
  have bmC := FmC.binds (ps := ["self", "x"]) fun _ _ _ _ _ _ us hl => match us, hl with | [_, _], _ => rfl
  have vmL := defB_of umL
  have FmL := fun_mk (st := mLen) (up vmL.1 vmL.2.1 lmL) vmL.2.2.1 vmL.2.2.2
  have bmL := FmL.binds (ps := ["self"]) fun _ _ _ _ _ _ us hl => match us, hl with | [_], _ => rfl
  have vmB := defB_of umB
  have FmB := fun_mk (st := mBool) (up vmB.1 vmB.2.1 lmB) vmB.2.2.1 vmB.2.2.2
  have bmB := FmB.binds (ps := ["self"]) fun _ _ _ _ _ _ us hl => match us, hl with | [_], _ => rfl
  have vmE := defB_of umE
  have FmE := fun_mk (st := mEq) (up vmE.1 vmE.2.1 lmE) vmE.2.2.1 vmE.2.2.2
  have bmE := FmE.binds (ps := ["self", "other"]) fun _ _ _ _ _ _ us hl => match us, hl with | [_, _], _ => rfl
  have vmS := defB_of umS
  have FmS := fun_mk (st := mStr) (up vmS.1 vmS.2.1 lmS) vmS.2.2.1 vmS.2.2.2
  have bmS := FmS.binds (ps := ["self"]) fun _ _ _ _ _ _ us hl => match us, hl with | [_], _ => rfl
  have vmO := defB_of umO
  have FmO := fun_mk (st := mOr) (up vmO.1 vmO.2.1 lmO) vmO.2.2.1 vmO.2.2.2
  have bmO := FmO.binds (ps := ["self", "other"]) fun _ _ _ _ _ _ us hl => match us, hl with | [_, _], _ => rfl
  have vmA := defB_of umA
  have FmA := fun_mk (st := mAnd) (up vmA.1 vmA.2.1 lmA) vmA.2.2.1 vmA.2.2.2
  have bmA := FmA.binds (ps := ["self", "other"]) fun _ _ _ _ _ _ us hl => match us, hl with | [_, _], _ => rfl
  have vmX := defB_of umX
  have FmX := fun_mk (st := mSub) (up vmX.1 vmX.2.1 lmX) vmX.2.2.1 vmX.2.2.2
  have bmX := FmX.binds (ps := ["self", "other"]) fun _ _ _ _ _ _ us hl => match us, hl with | [_, _], _ => rfl
  have vmG := defB_of umG
  have FmG := fun_mk (st := mBars) (up vmG.1 vmG.2.1 lmG) vmG.2.2.1 vmG.2.2.2
  have bmG := FmG.binds (ps := ["self"]) fun _ _ _ _ _ _ us hl => match us, hl with | [_], _ => rfl
  have mSm : mg "has_small_letters" = some (.ref fSm) := PySem.W.mg_of X G aSm
  have NSm : Kn K2 mg "has_small_letters" sSmall fSm _ ["text"] := ⟨FSm, mSm, bSm⟩
  have mWo : mg "is_word" = some (.ref fWo) := PySem.W.mg_of X G aWo
  have NWo : Kn K2 mg "is_word" sWord fWo _ ["value"] := ⟨FWo, mWo, bWo⟩
  have mNa : mg "is_name" = some (.ref fNa) := PySem.W.mg_of X G aNa
  have NNa : Kn K2 mg "is_name" sName fNa _ ["value"] := ⟨FNa, mNa, bNa⟩
  have mIg : mg "is_integer" = some (.ref fIg) := PySem.W.mg_of X G aIg
  have NIg : Kn K2 mg "is_integer" sInteger fIg _ ["value"] := ⟨FIg, mIg, bIg⟩
  have mIx : mg "is_index" = some (.ref fIx) := PySem.W.mg_of X G aIx
  have NIx : Kn K2 mg "is_index" sIndex fIx _ ["value", "many"] := ⟨FIx, mIx, bIx⟩
  have mBo : mg "is_bar_of" = some (.ref fBo) := PySem.W.mg_of X G aBo
  have NBo : Kn K2 mg "is_bar_of" sBarOf fBo _ ["value", "hows"] := ⟨FBo, mBo, bBo⟩
  have mIb : mg "is_bar" = some (.ref fIb) := PySem.W.mg_of X G aIb
  have NIb : Kn K2 mg "is_bar" sIsBar fIb _ ["value"] := ⟨FIb, mIb, bIb⟩
  have mDi : mg "_law_dice" = some (.ref fDi) := PySem.W.mg_of X G aDi
  have NDi : Kn K2 mg "_law_dice" sDice fDi _ ["_law_script", "_law_spot"] := ⟨FDi, mDi, bDi⟩
  have mRo : mg "_law_roll" = some (.ref fRo) := PySem.W.mg_of X G aRo
  have NRo : Kn K2 mg "_law_roll" sRoll fRo _ ["_law_dice_here", "_law_total"] := ⟨FRo, mRo, bRo⟩
  have mPi : mg "_law_pick" = some (.ref fPi) := PySem.W.mg_of X G aPi
  have NPi : Kn K2 mg "_law_pick" sPick fPi _ ["_law_dice_here", "_law_items"] := ⟨FPi, mPi, bPi⟩
  have mSo : mg "_law_some" = some (.ref fSo) := PySem.W.mg_of X G aSo
  have NSo : Kn K2 mg "_law_some" sSome fSo _ ["_law_dice_here", "_law_items", "_law_lots"] := ⟨FSo, mSo, bSo⟩
  have mIl : mg "_law_is_bar" = some (.ref fIl) := PySem.W.mg_of X G aIl
  have NIl : Kn K2 mg "_law_is_bar" sIsBarL fIl _ ["_law_value"] := ⟨FIl, mIl, bIl⟩
  have mBa : mg "_law_bar" = some (.ref fBa) := PySem.W.mg_of X G aBa
  have NBa : Kn K2 mg "_law_bar" sBar fBa _ ["_law_dice_here"] := ⟨FBa, mBa, bBa⟩
  have mBe : mg "_law_bent" = some (.ref fBe) := PySem.W.mg_of X G aBe
  have NBe : Kn K2 mg "_law_bent" sBent fBe _ ["_law_dice_here", "_law_bar_here"] := ⟨FBe, mBe, bBe⟩
  have mMa : mg "_law_made_of" = some (.ref fMa) := PySem.W.mg_of X G aMa
  have NMa : Kn K2 mg "_law_made_of" sMade fMa _ ["_law_value"] := ⟨FMa, mMa, bMa⟩
  have mDu : mg "_law_due" = some (.ref fDu) := PySem.W.mg_of X G aDu
  have NDu : Kn K2 mg "_law_due" sDue fDu _ ["_law_value"] := ⟨FDu, mDu, bDu⟩
  have mTr : mg "_law_told_right" = some (.ref fTr) := PySem.W.mg_of X G aTr
  have NTr : Kn K2 mg "_law_told_right" sToldR fTr _ ["_law_dice_here", "_law_bars", "_law_made"] := ⟨FTr, mTr, bTr⟩
  have mWd : mg "_law_word" = some (.ref fWd) := PySem.W.mg_of X G aWd
  have NWd : Kn K2 mg "_law_word" sWordL fWd _ ["_law_call"] := ⟨FWd, mWd, bWd⟩
  have mPr : mg "_law_pair_right" = some (.ref fPr) := PySem.W.mg_of X G aPr
  have NPr : Kn K2 mg "_law_pair_right" sPair fPr _ ["_law_dice_here", "_law_bars", "_law_others"] := ⟨FPr, mPr, bPr⟩
  have mRi : mg "_law_right" = some (.ref fRi) := PySem.W.mg_of X G aRi
  have NRi : Kn K2 mg "_law_right" sRight fRi _ ["_law_dice_here"] := ⟨FRi, mRi, bRi⟩
  have vmK := defB_of umK
  have FmK := fun_mk (st := mChildren) (up vmK.1 vmK.2.1 lmK) vmK.2.2.1 vmK.2.2.2
  simp only [Bool.and_eq_true, Bool.not_eq_true', beq_eq_false_iff_ne] at okA
  obtain ⟨⟨⟨⟨⟨⟨⟨⟨⟨⟨⟨z1, z2⟩, z3⟩, z4⟩, zo1⟩, zo2⟩, zh1⟩, zh2⟩, zt1⟩, zt2⟩, ze1⟩, ze2⟩ := okA
  have nn : ∀ {n : String}, n ∈ ["isinstance", "str", "tuple", "len", "list", "range", "repr", "int", "abs", "max", "min", "all", "bool", "set", "sorted"] → mg (Str.ofString n) = none := fun m => PySem.W.mg_none_of X G (nones_of z1 m)
  have by60 : ∃ t, mg "BEYOND" = some (.int (10 ^ 60) t) := ⟨_, PySem.W.mg_of X G cBy⟩
  have sy : Sy mg := ⟨nn (n := "all") (by decide), nn (n := "isinstance") (by decide), nn (n := "str") (by decide), nn (n := "tuple") (by decide), nn (n := "len") (by decide), nn (n := "int") (by decide), nn (n := "bool") (by decide), nn (n := "list") (by decide), nn (n := "set") (by decide), nn (n := "sorted") (by decide), nn (n := "repr") (by decide), nn (n := "range") (by decide), nn (n := "min") (by decide),
    ⟨_, PySem.W.mg_of X G cSm⟩, ⟨_, PySem.W.mg_of X G cMl⟩, ⟨_, PySem.W.mg_of X G cMb⟩, by60, ⟨_, PySem.W.mg_of X G cBs⟩, ⟨_, PySem.W.mg_of X G cTs⟩⟩
  have bl : Blt mg := ⟨nn (n := "len") (by decide), nn (n := "int") (by decide), nn (n := "abs") (by decide), nn (n := "max") (by decide)⟩
  have oth : OthAt K2 mg := ⟨oA, PySem.W.mg_of X G aO, fun H => .inr ⟨_, _, _, up zo1 zo2 lO, rfl, rfl, (by show 2 ≤ sizeLine; decide), .cons ⟨_, rfl⟩ (.cons ⟨_, rfl⟩ .nil)⟩⟩
  have hows : HowsAt K2 mg := ⟨hA, PySem.W.mg_of X G aH, fun H => .inr ⟨_, _, _, up zh1 zh2 lH, rfl, rfl, (by show 3 ≤ sizeLine; decide), .cons ⟨_, rfl⟩ (.cons ⟨_, rfl⟩ (.cons ⟨_, rfl⟩ .nil))⟩⟩
  have em : ∀ H, SqT K2 H e0 [] := fun H => .inr ⟨_, _, _, up ze1 ze2 lE, rfl, rfl, (by show 0 ≤ sizeLine; exact Nat.zero_le _), .nil⟩
  obtain ⟨fc, mkB, kpC, neC⟩ := fcB_of (PySem.W.mg_of X G aF) okF
  obtain ⟨prop, cread, cmet⟩ := prB_of okP
  simp only [Bool.and_eq_true] at okX okO
  obtain ⟨⟨ox1, ox2⟩, ox3⟩ := okX
  obtain ⟨⟨oo1, oo2⟩, oo3⟩ := okO
  have xI := xcB_of (n := "InvalidFilter") (PySem.W.mg_of X G aI) ox1
  have xO := xcB_of (n := "InvalidOperation") (PySem.W.mg_of X G aX) ox2
  unfold exB at ox3
  simp only [Bool.and_eq_true, beq_iff_eq] at ox3
  have mx : Mx K2 mg cI cO := ⟨xI.g, xO.g, ox3.1.1, ox3.1.2, ox3.2⟩
  have vmI := defB_of umI
  have FD : FunD K2 "__init__" "Filter.__init__" (defArgs mInit) (defBody mInit) (defScope mInit) [V.ref e0] [] fmI _ := ⟨⟨_, _, _, _, _, _, _, _, _, _, rfl, up vmI.1 vmI.2.1 lmI, vmI.2.2.1, .inr ⟨by simp, dT, _, [.ref e0], nT, rfl, up zt1 zt2 lT, rfl, .cons rfl .nil⟩, .inl rfl⟩, vmI.2.2.2⟩
  obtain ⟨d0, vd0, bI0⟩ := FD.binds1 (ps := ["self", "bars"]) 2 1 (by simp) rfl fun T kV doc pm an cdv ct us its h1 h2 => by
    match us, h1, its, h2 with
    | [_, _], _, [_], _ => exact ⟨_, rfl, rfl⟩
  cases vd0
  obtain ⟨d1, vd1, bI1⟩ := FD.binds1 (ps := ["self", "bars"]) 1 0 (by simp) rfl fun T kV doc pm an cdv ct us its h1 h2 => by
    match us, h1, its, h2 with
    | [_], _, [_], _ => exact ⟨_, rfl, rfl⟩
  have ed1 : d1 = [.ref e0] := by
    cases vd1 with
    | cons r t =>
      cases t
      cases r
      rfl
  subst ed1
  have mk : Mk K2 CF fmI := ⟨mkB, (methB_of ymI).1, (methB_of ymI).2, kpC⟩
  refine ⟨K2, PySem.W.fnOf "law" "law" (defArgs sLaw) (defBody sLaw) (defScope sLaw) .none kVLa dcLa pmLa anLa (.ref cLa) ctLa, [(cPr, pPr), (cLa, pLa)], spLaw K2 [(pPr, qPr), (pLa, qLa)], X2, ?_, ?_, ?_, fun s v => .of_eq rfl, ?_, fun base _ _ tb => ?_⟩
  · intro p hp
    simp only [List.mem_cons, List.not_mem_nil, or_false] at hp
    rcases hp with rfl | rfl
    · exact ePr
    · exact eLa
  · intro p hp
    simp only [List.mem_cons, List.not_mem_nil, or_false] at hp
    rcases hp with rfl | rfl
    · rw [eK2]; exact cut_l
    · rw [eK2]; exact cut_r
  · intro p hp
    simp only [List.mem_cons, List.not_mem_nil, or_false] at hp
    rcases hp with rfl | rfl
    · exact PySem.W.codeHd_of_K X2 z2
    · exact PySem.W.codeHd_of_K X2 z3
  · intro H a ns hl ht hS
    refine ⟨a, ns, rfl, hS, hl, fun p hp => ?_, fun _ => rfl⟩
    simp only [List.mem_cons, List.not_mem_nil, or_false] at hp
    rcases hp with rfl | rfl
    · exact TabS.nil (ht _ (List.mem_cons_self))
    · exact TabS.nil (ht _ (List.mem_cons_of_mem _ List.mem_cons_self))
  have tl := tb (cPr, pPr) List.mem_cons_self
  have tr := tb (cLa, pLa) (List.mem_cons_of_mem _ List.mem_cons_self)
  have BP : Tb base mg [(pPr, qPr), (pLa, qLa)] cPr pPr qPr := ⟨tl, List.mem_cons_self, fun x hx e => by
    simp only [List.mem_cons, List.not_mem_nil, or_false] at hx
    rcases hx with rfl | rfl
    · rfl
    · exact absurd e (Ne.symm z4)⟩
  have BL : Tb base mg [(pPr, qPr), (pLa, qLa)] cLa pLa qLa := ⟨tr, List.mem_cons_of_mem _ List.mem_cons_self, fun x hx e => by
    simp only [List.mem_cons, List.not_mem_nil, or_false] at hx
    rcases hx with rfl | rfl
    · exact absurd e z4
    · rfl⟩
  have GWo := ok_word (P := P) (w := w) (base := base) FWo sy NSm
  have GNa := ok_name (P := P) (w := w) (base := base) FNa sy oth NWo GWo
  have GIx := ok_index (P := P) (w := w) (base := base) FIx sy NIg
  have GBo := ok_barof (P := P) (w := w) (base := base) FBo sy NNa GNa NIx GIx
  have GIb := ok_isbar (P := P) (w := w) (base := base) FIb hows NBo GBo
  have GI : FnOk P w K2 mg base (L2.CX P w) 6 fmI _ ["self", "bars"] (spFInit K2 CF cI) := FD.ok scIn (fun vs H Q E h => by obtain ⟨a, dx, x, o, rfl, _⟩ := h; rfl) fun cdv A outer s H vs Q E hr h => by
    obtain ⟨t, h1, h2⟩ := body_init (P := P) (w := w) (K := K2) (mg := mg) (base := base) (outer := outer) (H := H) (E := E) cdv hr sy fc xI NIb GIb
    exact ⟨t, h1, h2 vs Q h⟩
  have C : Cm P w K2 mg base CF cI cO := ⟨sy, fc, xI, xO, ⟨_, _, _, prop, ok_bars FmG fc, bmG⟩, ⟨_, _, mk, GI, bI0⟩⟩
  have O : Ops P w K2 mg base CF := {
    eq := ⟨_, _, ⟨(methB_of ymE).1, (methB_of ymE).2, bmE⟩, ok_eqf FmE sy fc⟩
    has := ⟨_, _, ⟨(methB_of ymC).1, (methB_of ymC).2, bmC⟩, ok_hasf FmC fc NIb GIb⟩
    len := ⟨_, _, ⟨(methB_of ymL).1, (methB_of ymL).2, bmL⟩, ok_lenf FmL sy fc⟩
    bool := ⟨_, _, ⟨(methB_of ymB).1, (methB_of ymB).2, bmB⟩, ok_boolf FmB sy fc⟩
    str := ⟨_, _, ⟨(methB_of ymS).1, (methB_of ymS).2, bmS⟩, ok_strf FmS sy fc⟩
    ne := neC }
  have O2 : Ops2 P w K2 mg base CF cI cO := {
    or_ := ⟨⟨_, _, ⟨(methB_of ymO).1, (methB_of ymO).2, bmO⟩, ok_or FmO C⟩, (opB_of oo1).1, (opB_of oo1).2⟩
    and_ := ⟨⟨_, _, ⟨(methB_of ymA).1, (methB_of ymA).2, bmA⟩, ok_and FmA C⟩, (opB_of oo2).1, (opB_of oo2).2⟩
    sub_ := ⟨⟨_, _, ⟨(methB_of ymX).1, (methB_of ymX).2, bmX⟩, ok_sub FmX C⟩, (opB_of oo3).1, (opB_of oo3).2⟩
    part := ⟨_, _, ⟨(methB_of ymP).1, (methB_of ymP).2, vmP.2.2.2⟩, ok_part FmP C, bmP⟩
    word := ⟨_, _, _, _, _, _, _, _, _, _, mWd, FWd.kp, up vWd.1 vWd.2.1 lWd, vWd.2.2.1, bWd⟩
    mx := mx }
  have L : Lib P w K2 mg base CF cI := {
    roll := ⟨_, _, ok_roll FRo bl, mRo, FRo.kp, bRo⟩
    pick := ⟨_, _, ok_pick FPi bl FRo mRo bRo, mPi, FPi.kp, bPi⟩
    some_ := ⟨_, _, ok_some FSo sy bl NRo, mSo, FSo.kp, bSo⟩
    isbar := ⟨_, _, ok_isbarL FIl sy, mIl, FIl.kp, bIl⟩
    bar := ⟨_, _, ok_bar FBa bl NRo NPi, mBa, FBa.kp, bBa⟩
    bent := ⟨_, _, ok_bent FBe sy bl NRo NPi, mBe, FBe.kp, bBe⟩
    made := ⟨_, _, ok_made FMa C mx, mMa, FMa.kp, bMa⟩
    due := ⟨_, _, ok_due FDu sy NIl, mDu, FDu.kp, bDu⟩ }
  have GPr : FnG P w K2 mg base CX0 11 fPr _ ["_law_dice_here", "_law_bars", "_law_others"] (spPair K2 [(pPr, qPr), (pLa, qLa)]) := ok_pair ⟨⟨_, _, _, _, _, _, _, _, rfl, up vPr.1 vPr.2.1 lPr, vPr.2.2.1⟩, vPr.2.2.2⟩ C O O2 L BP
  have L2' : Lib2 P w K2 mg base CF [(pPr, qPr), (pLa, qLa)] := ⟨⟨_, _, ok_toldR FTr C O L, mTr, FTr.kp, bTr⟩, ⟨_, _, GPr, mPr, FPr.kp, bPr⟩⟩
  have GRi := ok_right (P := P) (w := w) (base := base) FRi C L L2'
  have kd : Kd P w K2 mg base CF cI := ⟨⟨_, _, e0, mk, GI, bI1, em⟩, ⟨_, _, _, cread, cmet, ok_kids FmK C⟩, hows⟩
  exact ok_law ⟨⟨_, _, _, _, _, _, _, _, rfl, up vLa.1 vLa.2.1 lLa, vLa.2.2.1⟩, vLa.2.2.2⟩ C O O2 kd BL bl (ok_dice FDi bl) mDi FDi.kp bDi GRi mRi FRi.kp bRi
end LR
set_option Elab.async false
set_option linter.all false
set_option maxRecDepth 100000
open PySem PySem.W PyProof.Rows
set_option maxRecDepth 100000 in
set_option maxHeartbeats 0 in
theorem PySem.Challenge.cw_chosentrees_k32_filters_made_and_combine_holds : PySem.Challenge.rw_chosentrees_k32_filters_made_and_combine.Holds := by
  w_on; o_law; k_head; (case hw => w_witness2)
  k_fill
  refine GT.walkGT (k := 13) (x := "_law_script") (l := PySem.Challenge.rw_chosentrees_k32_filters_made_and_combine) rfl (by decide) rfl ⟨rfl, by decide, by decide⟩ (fun w h Y => ⟨PySem.W.km_in_of Y, PySem.W.km_tabs_of Y⟩) ?F
  case F =>
    intro w mg fa h KX hTb G hmg
    refine' LR.all_mk (pPr := 314) (pLa := 324) KX G hmg ?aSm ?lSm ?aWo ?lWo ?aNa ?lNa ?aIg ?lIg ?aIx ?lIx ?aBo ?lBo ?aIb ?lIb ?aDi ?lDi ?aRo ?lRo ?aPi ?lPi ?aSo ?lSo ?aIl ?lIl ?aBa ?lBa ?aBe ?lBe ?aMa ?lMa ?aDu ?lDu ?aTr ?lTr ?aWd ?lWd ?aPr ?lPr ?aRi ?lRi ?aLa ?lLa ?aF ?aI ?aX ?jmP ?lmP ?jmC ?lmC ?jmL ?lmL ?jmB ?lmB ?jmE ?lmE ?jmS ?lmS ?jmO ?lmO ?jmA ?lmA ?jmX ?lmX ?jB ?rB ?lmG ?jK ?rK ?lmK ?jI ?lmI ?lT ?lE ?cSm ?cMl ?cMb ?cBy ?cBs ?cTs ?aO ?lO ?aH ?lH ?ePr ?eLa ?okD ?okM ?okF ?okP ?okX ?okO ?okA
    (case aSm => k_is)
    (case lSm => k_is)
    (case aWo => k_is)
    (case lWo => k_is)
    (case aNa => k_is)
    (case lNa => k_is)
    (case aIg => k_is)
    (case lIg => k_is)
    (case aIx => k_is)
    (case lIx => k_is)
    (case aBo => k_is)
    (case lBo => k_is)
    (case aIb => k_is)
    (case lIb => k_is)
    (case aDi => k_is)
    (case lDi => k_is)
    (case aRo => k_is)
    (case lRo => k_is)
    (case aPi => k_is)
    (case lPi => k_is)
    (case aSo => k_is)
    (case lSo => k_is)
    (case aIl => k_is)
    (case lIl => k_is)
    (case aBa => k_is)
    (case lBa => k_is)
    (case aBe => k_is)
    (case lBe => k_is)
    (case aMa => k_is)
    (case lMa => k_is)
    (case aDu => k_is)
    (case lDu => k_is)
    (case aTr => k_is)
    (case lTr => k_is)
    (case aWd => k_is)
    (case lWd => k_is)
    (case aPr => k_is)
    (case lPr => k_is)
    (case aRi => k_is)
    (case lRi => k_is)
    (case aLa => k_is)
    (case lLa => k_is)
    (case aF => k_is)
    (case aI => k_is)
    (case aX => k_is)
    (case jmP => k_is)
    (case lmP => k_is)
    (case jmC => k_is)
    (case lmC => k_is)
    (case jmL => k_is)
    (case lmL => k_is)
    (case jmB => k_is)
    (case lmB => k_is)
    (case jmE => k_is)
    (case lmE => k_is)
    (case jmS => k_is)
    (case lmS => k_is)
    (case jmO => k_is)
    (case lmO => k_is)
    (case jmA => k_is)
    (case lmA => k_is)
    (case jmX => k_is)
    (case lmX => k_is)
    (case jB => k_is)
    (case rB => k_is)
    (case lmG => k_is)
    (case jK => k_is)
    (case rK => k_is)
    (case lmK => k_is)
    (case jI => k_is)
    (case lmI => k_is)
    (case lT => k_is)
    (case lE => k_is)
    (case cSm => k_is)
    (case cMl => k_is)
    (case cMb => k_is)
    (case cBy => k_is)
    (case cBs => k_is)
    (case cTs => k_is)
    (case aO => k_is)
    (case lO => k_is)
    (case aH => k_is)
    (case lH => k_is)
    (case ePr => exact hTb _ (by decide))
    (case eLa => exact hTb _ (by decide))
    (case okD => kernel_rfl)
    (case okM => kernel_rfl)
    (case okF => kernel_rfl)
    (case okP => kernel_rfl)
    (case okX => kernel_rfl)
    (case okO => kernel_rfl)
    (case okA => kernel_rfl)
