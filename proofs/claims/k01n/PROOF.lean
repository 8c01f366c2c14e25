import PyProof.Rows.All
import Wide.All
import OpenK.AllK
import Wide.FinOn
import HandS.ForMost
import HandS.ForExc
import PyProof.ReprRoads
import HandS.Exc
import HandS.ExcOwn
import HandS.ExcValue
import HandS.ExcInit
import KE.KExcIs
import KE.KExcInit
import KE.KExcStr
import HandS.IsInst
import HandS.Walk
import KE.DatumOrd
import HandS.TryMany
import HandS.ExcField
import HandS.Lambda
import HandS.EndTab
import HandS.TupAny
import HandS.TupMul
import PySem.Challenge.RW_chosentrees_k01_symbols_and_rows_of_term
set_option Elab.async false
set_option linter.all false
set_option maxRecDepth 100000
set_option maxHeartbeats 2000000
namespace CG
open PySem PySem.Spec PyProof.Rows L2
/-! a def's promise where no repr is under way around the call -/
structure FnG (P : Program) (w : World) (K : PySem.W.Frag) (mg : Str → Option Value) (base : Heap) (CX : CXT)
    (k : Nat) (f : Addr) (fd : FuncData) (ps : List Str) (sp : Sp) : Prop where
  len : ∀ vs H Q E, sp vs H Q E → vs.length = ps.length
  run : ∀ (A : Around) (outer : List Env) (s : Shared) (H : Hp) (args : Args) (us : List Value) (vs : List V) (Q : VK) (E : XK),
    Room k A → A.guards = some [] → Env0 P w K mg base A outer s H → BindsTo s fd args (ps.zip us) → Vals vs us →
    sp vs H Q E → codeAny (model P w) A (.call (.ref f) args) (CR CX outer P w H s Q E) s
section
variable {P : Program} {w : World} {K : PySem.W.Frag} {mg : Str → Option Value} {base : Heap} {CX : CXT} {k : Nat}
  {f : Addr} {fd : FuncData} {ps N : List Str} {sp : Sp}
theorem FnG.of (F : FnOk P w K mg base CX k f fd ps sp) : FnG P w K mg base CX k f fd ps sp :=
  ⟨F.len, fun A o s H a us vs Q E r _ => F.run A o s H a us vs Q E r⟩
theorem FnG.imp {sp' : Sp} (F : FnG P w K mg base CX k f fd ps sp) (h : ∀ vs H Q E, sp' vs H Q E → sp vs H Q E) :
    FnG P w K mg base CX k f fd ps sp' :=
  ⟨fun vs H Q E q => F.len vs H Q E (h _ _ _ _ q), fun A o s H a us vs Q E r g e b v q => F.run A o s H a us vs Q E r g e b v (h _ _ _ _ q)⟩
/-- the body is walked for each entry at which no repr is under way -/
theorem fnG_of {x qual : Str} {st : Stmt} (F : Fun K x qual st f fd) (S : FnScope N ps (defScope st))
    (len : ∀ vs H Q E, sp vs H Q E → vs.length = ps.length)
    (body : ∀ (cdv : Value) (A : Around) (outer : List Env) (s : Shared) (H : Hp) (vs : List V) (Q : VK) (E : XK),
      Room k (A.deeper (envOfC qual (defScope st) s.heap.objs.size f cdv)) → A.guards = some [] → sp vs H Q E →
      ∃ t, PSs (cxOf CX P w K mg base N qual (defScope st) f cdv A outer s H E) (defBody st) t ∧
        t { nx := fun _ H' => Q .non H', rt := Q } (start N vs) H) :
    FnG P w K mg base CX (k + 1) f fd ps sp := by
  obtain ⟨oc, od, kV, doc, pm, an, cdv, ct, osl, rfl, lk, hcd⟩ := F.ex
  constructor
  · exact len
  intro A outer s H args us vs Q E room gd env bnd rel want
  have old := fun b o e => (env.bs b o e).1
  have kin : K.In s.heap := env.mod.kin.keeps old
  have free : s.heap.NoLimit := env.mod.nolimit.keeps old
  refine codeAny_call_function room.depth (kin _ _ lk) rfl S.co S.gen rfl (PySem.W.codeRec_of kin hcd) (bnd _ _ _ _ ?_)
  refine wpAny_newFunctionEnv_cells S.kind ?_ ?_
  · rintro ⟨n, v⟩ hm
    cases S.par n (List.of_mem_zip hm).1 with
    | inl z => exact .inl z
    | inr z => exact .inr ⟨z, PySem.W.cellsFrom_some _ _ _ (.inl z)⟩
  · intro en hen s1 C
    subst hen
    refine ⟨free.keeps C.toInCall.keep, codeAny_func ?_⟩
    obtain ⟨t, walk, start0⟩ := body cdv A outer s H vs Q E (room.deeper _) gd want
    have I0 := inv_start (CX := CX) (E := E) S room.hd env (len _ _ _ _ want) rel C
    refine wpAny_mono (walk.run [] s1 _ H _ I0 start0) ?_ (fun _ _ z => z)
    intro fl s' z
    cases fl with
    | next =>
      obtain ⟨σ2, H2, J, q⟩ := z
      exact ⟨.non, H2, J.os, J.bare, J.base, J.hok, rfl, q⟩
    | ret u =>
      obtain ⟨v, σ2, H2, J, rv, q⟩ := z
      exact ⟨v, H2, J.os, J.bare, J.base, J.hok, rv, q⟩
    | brk => exact z.elim fun _ z => z.elim fun _ z => z.2.elim
    | cont => exact z.elim fun _ z => z.elim fun _ z => z.2.elim
end
section
variable {X : Cx} {CX : CXT} {k : Nat} {f : Addr} {fd : FuncData} {ps : List Str} {sp : Sp} {E : XK} {x : Str} {p pos : Pos} {e : Expr}
  {es : List Expr} {t : TA}
theorem runG {pins : List (Addr × Obj)} {σ : L2.St} {H : Hp} {s : Shared} {Q : VK} {us : List Value} {vs : List V}
    (F : FnG X.prog X.w X.K X.mg X.base CX k f fd ps sp) (hr : Room k X.A) (hg : X.A.guards = some []) (hb : Binds X.K fd ps [])
    (hx : Passes CX X E) (I : Inv X pins σ H s) (r : Vals vs us) (h : sp vs H Q E) :
    wpAny (model X.prog X.w) X.A (call (.ref f) us) (EP X pins σ Q) X.xe s := by
  have hl : (us ++ []).length = ps.length := by rw [List.append_nil, ← r.length]; exact F.len _ _ _ _ h
  have hb' := hb s us I.kIn hl
  rw [List.append_nil] at hb'
  refine wpAny_call (codeAny_mono (F.run X.A X.stack s H _ us vs Q E hr hg I.env0 hb' r h) ?_)
  intro r s' hq
  match r, hq with
  | .error er, hq => exact hx pins σ H s er s' I hq
  | .ok (.ret u), hq => exact I.after hq
/-- f(e, ..) of such a def -/
theorem pe_callG (F : FnG X.prog X.w X.K X.mg X.base CX k f fd ps sp) (hr : Room k X.A) (hgd : X.A.guards = some []) (hg : Gl X x)
    (hm : X.mg x = some (.ref f)) (hk : PySem.W.keepIn X.K (.ref f) = true) (hb : Binds X.K fd ps []) (hx : Passes CX X E)
    (ha : PA X (e :: es) t) (hdb : (x == ("__debug__" : Str)) = false := by decide)
    (he : starEach (e :: es) X.env = (false, eval e X.env) :: starEach es X.env := by rfl)
    (hpl : (backTo pos (starEach es X.env)).any (·.1) = false := by rfl) :
    PE X (.Call (.Name x p) (e :: es) [] pos) (fun σ H Q => t σ H fun vs H1 => sp vs H1 Q E) := by
  constructor
  intro pins s σ H Q I h
  refine wpAny_Call_Name_kw (ld_glob I hg hm ?_ hdb)
  refine PySem.W.callWith_K (h₀ := X.base) I.ok.mod.kin hk (thn (ha.run pos pins s σ H _ I h) ?_) he hpl
  rintro us s1 ⟨vs, H1, I1, r1, q1⟩
  exact ⟨I1.kIn, runG F hr hgd hb hx I1 r1 q1⟩
end
end CG
set_option Elab.async false
set_option linter.all false
set_option maxRecDepth 100000
set_option maxHeartbeats 2000000
namespace CG
open PySem PySem.Spec PyProof.Rows L2
/-! ### the law's call from the head, for a promise of the G kind -/
/-- the heap at the law's call: the script alone, if the top does not hold it -/
def scriptHp (K : PySem.W.Frag) (a : Addr) (vs : List Value) (ns : List Int) : Hp := fun b =>
  if b = a ∧ K.lookup a = none then some (.frz { cls := .type "list", data := .seq vs.toArray } (.lst (ns.map V.int))) else none
theorem scriptHp_some {K : PySem.W.Frag} {a b : Addr} {vs : List Value} {ns : List Int} {u : HO} (h : scriptHp K a vs ns b = some u) :
    b = a ∧ K.lookup a = none ∧ u = .frz { cls := .type "list", data := .seq vs.toArray } (.lst (ns.map V.int)) := by
  unfold scriptHp at h
  split at h
  · rename_i z; cases h; exact ⟨z.1, z.2, rfl⟩
  · cases h
theorem lawG {P : Program} {w : World} {K : PySem.W.Frag} {mg mb : Str → Option Value} {k : Nat} {fa a : Addr} {fd : FuncData} {x : Str} {sp : Sp}
    {s₁ : Shared} {vs : List Value} {ns : List Int} (inK : K.In s₁.heap) (g : s₁.heap.Ns mainGlobals mg) (bl : s₁.heap.Ns builtinsNs mb)
    (bt : ∀ x : Str, x ≠ "__name__" → mb x = bootBuiltins x) (nl : s₁.heap.NoLimit) (gens : s₁.gens = #[])
    (obj : s₁.heap.get? a = some { cls := .type "list", data := .seq vs.toArray }) (hInts : IntsAre vs ns) (short : ns.length ≤ sizeLine) (room : Room k callerA)
    (F : ∀ base : Heap, K.In base → base.Ns mainGlobals mg → FnG P w K mg base CX0 k fa fd [x] sp)
    (bnd : ∀ (s : Shared) (u : Value), BindsTo s fd ⟨[u], []⟩ [(x, u)])
    (want : ∀ H : Hp, SqL K H a (ns.map V.int) → sp [.ref a] H (fun v _ => v = .bl true) E0) :
    codeAny (model P w) callerA (.call (.ref fa) ⟨[.ref a], []⟩)
      (fun r s' => r = .ok (.ret (.bool true)) ∧ OldK s₁.heap s'.heap ∧ s'.os = s₁.os ∧ AllBare s'.gens) s₁ := by
  have many := hInts.length
  generalize hH : scriptHp K a vs ns = H
  have sees : SqL K H a (ns.map V.int) := by
    cases e : K.lookup a with
    | none => exact .inl (.inr ⟨_, by rw [← hH]; exact if_pos ⟨rfl, e⟩⟩)
    | some o =>
      have z := inK a o e
      rw [obj] at z
      cases z
      exact .inr ⟨_, vs.toArray, _, e, rfl, rfl, rfl, by rw [List.size_toArray, many]; exact short, by simpa using vals_ints hInts⟩
  have ok : HOk P w H s₁.heap := by
    intro b u e
    rw [← hH] at e
    obtain ⟨rfl, _, rfl⟩ := scriptHp_some e
    exact ⟨obj, by rw [List.length_map]; exact short, vs, _, vals_ints hInts, obj⟩
  have hid : ∀ {b : Addr} {o : Obj}, s₁.heap.get? b = some o → (∀ u, H b = some u → False) → (hidT s₁.heap H).get? b = some o := by
    intro b o e n
    refine hidT_get e ?_
    cases q : H b with
    | none => rfl
    | some u => exact (n u q).elim
  have hidNs : ∀ {b : Addr} {m : Str → Option Value}, s₁.heap.Ns b m → (hidT s₁.heap H).Ns b m := by
    rintro b m ⟨o, es, ep, e, d, r⟩
    refine ⟨o, es, ep, hid e fun u q => ?_, d, r⟩
    rw [← hH] at q
    obtain ⟨rfl, _, _⟩ := scriptHp_some q
    rw [obj] at e
    cases e
    cases d
  have hidK : K.In (hidT s₁.heap H) := by
    intro b o e
    refine hid (inK b o e) fun u q => ?_
    rw [← hH] at q
    obtain ⟨rfl, z, _⟩ := scriptHp_some q
    rw [z] at e
    cases e
  have env : Env0 P w K mg (hidT s₁.heap H) callerA [] s₁ H := {
    frames := rfl
    mod := ⟨hidK, hidNs g, ⟨mb, hidNs bl, bt⟩, by obtain ⟨mc, h1, h2⟩ := nl; exact ⟨mc, hidNs h1, h2⟩⟩
    bs := fun b o e => of_hidT e
    bsz := Nat.le_of_eq (hidT_size _ _)
    funs := trivial
    frf := fun b z => by cases z
    hok := ok
    bare := .of_eq gens }
  refine codeAny_mono ((F _ hidK (hidNs g)).run callerA [] s₁ H _ [.ref a] [.ref a] _ _ room rfl env (bnd s₁ (.ref a)) (.cons rfl .nil) (want H sees)) ?_
  intro r s' h
  match r, h with
  | .ok (.ret u), ⟨v, H', os, bare, un, ok', rel, q⟩ =>
    have q' : v = .bl true := q
    subst q'
    have rel' : u = Value.bool true := rel
    subst rel'
    refine ⟨rfl, OldK.of_keep fun b o e => ?_, os, bare⟩
    cases q : H b with
    | none => exact un.keep b o e q (by intro z; cases z) (by intro z; cases z)
    | some u =>
      have q0 := q
      rw [← hH] at q
      obtain ⟨rfl, _, rfl⟩ := scriptHp_some q
      obtain ⟨e2, _⟩ := ok' b _ (un.frzs b _ _ q0)
      rw [obj] at e
      cases e
      exact e2
theorem walkG {l : PySem.W.OpenLaw} {n k : Nat} {q : Program} {loose : List Str} {XP : (Str → Option Value) → Heap → Prop} {YP : World → Heap → Prop}
    {d : DefRec} {K : Params → PySem.W.Frag} {sp : PySem.W.Frag → Sp} {x : Str}
    (hn : l.most = some n) (hn2 : n ≤ sizeLine) (hdf : d.params.defaults = []) (room : Room k callerA)
    (hY : ∀ (w : World) (h : Heap), YP w h → (K w.params).In h)
    (F : ∀ (w : World) (mg : Str → Option Value) (fa : Addr) (h : Heap), (K w.params).In h → h.Ns mainGlobals mg → mg d.name = some (.ref fa) →
      ∃ fd : FuncData, (∀ (s : Shared) (u : Value), BindsTo s fd ⟨[u], []⟩ [(x, u)]) ∧
        ∀ base : Heap, (K w.params).In base → base.Ns mainGlobals mg → FnG l.prog w (K w.params) mg base CX0 k fa fd [x] (sp (K w.params)))
    (want : ∀ (K : PySem.W.Frag) (H : Hp) (a : Addr) (ns : List Int), ns.length ≤ n → SqL K H a (ns.map V.int) → sp K [.ref a] H (fun v _ => v = .bl true) E0) :
    PySem.W.WalkO q loose XP YP l.row.toRowW d [] (fun f vs => PySem.call f vs) := by
  refine Att.attach_call hn hdf ?_
  intro w s₀ s₁ mg mb fa o pm cd doc a vs ns G Y ho hd hcd hmg hobj hints hlen hg
  obtain ⟨fd, hb, hF⟩ := F w mg fa _ (hY w _ Y) G.T.g hmg
  exact lawG (hY w _ Y) G.T.g G.T.b G.T.builtins G.T.nolimit hg hobj hints (Nat.le_trans hlen hn2) room hF hb fun H z => want _ H a ns hlen z
/-! ### operators -/
section
variable {X : Cx}
/-- ** where the result is below some million bits -/
theorem op_powB : OpR X (binaryOp .Pow) (rI (fun i j => 0 ≤ j ∧ (Builtin.Int.intBits i : Int) * j ≤ 2 ^ 27) fun i j => .int (i ^ j.toNat)) :=
  opI fun _ _ _ _ _ _ _ hc q => pow_int hc.1 hc.2 q
/-- a text by a number -/
theorem op_mul_str : OpR X (binaryOp .Mult) (fun x y H Q => ∃ z n, x = .str z ∧ y = .int n ∧ MulOk z n ∧ Q (.str (Txt.mul z n)) H) := by
  intro pins s σ H x y v u Q I rx ry h
  obtain ⟨z, n, rfl, rfl, ok, q⟩ := h
  obtain ⟨t, rfl⟩ := rx
  obtain ⟨t', rfl⟩ := ry
  exact SB.mul ok fun t1 k => ⟨.str _, H, I.tok k, ⟨_, rfl⟩, q⟩
/-- repr of what reads as data -/
def ReadsAs (X : Cx) (H : Hp) (v : V) (d : PyData) : Prop :=
  ∀ (pins : List (Addr × Obj)) (σ : L2.St) (s : Shared) (u : Value), Inv X pins σ H s → RelV v u → ∃ as, Reads s.heap u d as ∧ (d.hasDict = true → sysModules ∉ as)
theorem call_repr_data (hg : X.A.guards = some []) : CallR X (.builtin "repr") (fun xs H Q => ∃ a d, xs = [.ref a] ∧ ReadsAs X H (.ref a) d ∧ d.showable = true ∧
    X.A.units + (d.depth + 1) < cLine ∧ d.shown.length ≤ sizeLine ∧ Q (.str d.shown) H) := by
  intro pins s σ H xs us Q I r h
  obtain ⟨a, d, rfl, rd, sh, room, short, q⟩ := h
  obtain ⟨u, rfl, ru⟩ := vals1 r
  have ru' : u = Value.ref a := ru
  subst ru'
  obtain ⟨as, r1, nd⟩ := rd pins σ s _ I rfl
  exact repr_of_reads' r1 sh nd hg room (fun _ _ e => e) (fun h' t tk kp => ⟨.str _, H, I.kept kp, ⟨_, rfl⟩, q⟩) short
end
end CG
set_option Elab.async false
set_option linter.all false
set_option maxRecDepth 100000
set_option maxHeartbeats 2000000
/-! exceptions of the program's own classes, held as values: made, asked for their class, their text, their field -/
namespace CGX
open PySem PySem.HandSPX
section
variable {M : Model} {prog : Program} {w : World} {A : Around} {E : Value → Shared → Prop} {R : Result → Shared → Prop}
  {h : Heap} {g : Array GenState} {d : Drawn} {t : Nat} {os : OsState}
variable {nm q : Str} {C N : Addr} {bs bm bmB : List Value} {hdct : Bool} {sn : List Str} {sub : List Value} {ab : Bool}
  {col : Option Bool} {dd : Option Addr} {k0 k1 k2 k3 k5 : Option Value} {B newId initId : String}
/-- the classes above one of the program's own, as far as a new exception asks for them -/
structure Above (C : Addr) (bm : List Value) (B : String) : Prop where
  base : (Value.ref C :: bm).contains (.type B) = true
  attr : (Value.ref C :: bm).contains (.type "AttributeError") = false
  name : (Value.ref C :: bm).contains (.type "NameError") = false
theorem new_checked (F : ExcBaseFacts B newId initId bmB) (U : Above C bm B) {rest : List Value} {Q : Unit → Shared → Prop}
    (hC : h.get? C = some (excClassObj nm q C N bs bm hdct sn sub ab col dd k0 k1 k2 k3 k5 newId)) (hq : Q () ⟨h, g, d, t, os⟩) :
    wpAny M A (checkBuiltinCall newId ⟨.ref C :: rest, []⟩) Q E ⟨h, g, d, t, os⟩ := by
  have b := U.base
  have z := F.noStar
  simp only [checkBuiltinCall, F.newKind, F.newSplit, F.newRow]
  repeat (first
    | refine wpAny_loadPart_at hC ?_
    | (refine wpAny_isSubtype_exc hC ?_; rw [b])
    | refine wpAny_staticBase_exc hC ?_
    | refine wpAny_madeBy_exc hC ?_
    | simp only [bne_self_eq_false, Bool.false_eq_true, if_false]
    | wp_step)
  exact hq
theorem new_made (F : ExcBaseFacts B newId initId bmB) (U : Above C bm B) {rest : List Value}
    (hC : h.get? C = some (excClassObj nm q C N bs bm hdct sn sub ab col dd k0 k1 k2 k3 k5 newId))
    (hq : R (.ok (.ret (.ref (h.objs.size + 1)))) ⟨(h.push (W.kdv_tup rest)).push (excO C h.objs.size), g, d, t, os⟩) (few : rest.length ≤ sizeLine) :
    codeAny (model prog w) A (.builtin newId ⟨.ref C :: rest, []⟩) R ⟨h, g, d, t, os⟩ := by
  have b := U.base
  have a := U.attr
  have n := U.name
  have e := F.ends
  refine codeAny_builtinAt F.entry ?_
  unfold Builtin.«BaseException.__new__»
  refine wpAt_bind ?_
  show wpAt _ _ _ (stack >>= _) _ _ _
  refine wpAt_bind (wpAt_stack fun _ _ => wpAt_of_wpAny ?_)
  wp_walk
  refine wpAt_of_wpAny ?_
  rw [F.owner]
  repeat (first
    | with_reducible refine wpAny_madeHere_exc F.canon hC ?_
    | with_reducible refine wpAny_loadPart_at hC ?_
    | (with_reducible refine wpAny_isSubtype_exc hC ?_; first | rw [b] | rw [a] | rw [n])
    | wp_step)
  show R _ _
  rw [Heap.size_push]
  exact hq
/-- the inner part of an own class's call: the new exception, then its own __init__ -/
theorem made_inner (F : ExcBaseFacts B newId initId bmB) (U : Above C bm B) {rest : List Value} {fI : Addr} {Q : Fin → Shared → Prop}
    (hC : h.get? C = some (excClassObj nm q C N bs bm hdct sn sub ab col dd k0 k1 k2 k3 k5 newId))
    (hi : W.Looks (model prog w) h (typeLookup (.ref C) "__init__") (some (.ref fI)))
    (hb : ∀ self, W.Looks (model prog w) h (bindSpecial (.ref fI) self) (.ref fI, [self])) (few : rest.length ≤ sizeLine)
    (run : codeAny (model prog w) A (.call (.ref fI) ⟨.ref (h.objs.size + 1) :: rest, []⟩)
      (fun r s' => match r with | .ok (.ret v) => v = .none ∧ Q (.done (.ret (.ref (h.objs.size + 1)))) s' | .ok _ => False | .error e => E e s')
      ⟨(h.push (W.kdv_tup rest)).push (excO C h.objs.size), g, d, t, os⟩) :
    wpAny (model prog w) A (Builtin.«type.__call__» ⟨.ref C :: rest, []⟩) Q E ⟨h, g, d, t, os⟩ := by
  repeat (first | with_reducible refine wpAny_loadPart_at hC ?_ | with_reducible refine wpAny_madeBy_exc hC ?_ | wp_step)
  refine codeAny_call_builtin_code (Code.quiet_builtin _ F.quiet) (new_checked F U hC (new_made F U hC ?_ few))
  show wpAny _ _ _ _ _ _
  have kp : ∀ b o, h.get? b = some o → ((h.push (W.kdv_tup rest)).push (excO C h.objs.size)).get? b = some o :=
    fun b o e => Heap.get?_push_of_some _ (Heap.get?_push_of_some _ e)
  have hC1 := kp _ _ hC
  have new1 : ((h.push (W.kdv_tup rest)).push (excO C h.objs.size)).get? (h.objs.size + 1) = some (excO C h.objs.size) := by heap_get
  have own : (Value.ref C :: bm).contains (.ref C) = true := by simp
  unfold isInstance
  repeat (first | with_reducible refine wpAny_loadPart_at new1 ?_ | (with_reducible refine wpAny_isSubtype_exc hC1 ?_; rw [own]) | wp_step)
  show wpAny _ _ (typeLookup (.ref C) _) _ _ _
  refine (hi.keeps kp).at (wpAny_holding (wpAny_bind (((hb (.ref (h.objs.size + 1))).keeps kp).at ?_)))
  refine wpAny_bind (wpAny_call (codeAny_mono run ?_))
  intro r s' z
  match r, z with
  | .error e, z => exact z
  | .ok (.ret v), z =>
    obtain ⟨rfl, z⟩ := z
    first
      | exact wpAny_pure (wpAny_pure z)
      | (wp_walk; exact z)
/-- an own class is called, its own __init__ runs on the new exception -/
theorem made_by_init (F : ExcBaseFacts B newId initId bmB) (U : Above C bm B) {rest : List Value} {fI : Addr}
    (hC : h.get? C = some (excClassObj nm q C N bs bm hdct sn sub ab col dd k0 k1 k2 k3 k5 newId))
    (hi : W.Looks (model prog w) h (typeLookup (.ref C) "__init__") (some (.ref fI)))
    (hb : ∀ self, W.Looks (model prog w) h (bindSpecial (.ref fI) self) (.ref fI, [self])) (few : rest.length ≤ sizeLine)
    (run : codeAny (model prog w) (A.under (.builtin "type.__call__" ⟨.ref C :: rest, []⟩)) (.call (.ref fI) ⟨.ref (h.objs.size + 1) :: rest, []⟩)
      (W.InitBack (h.objs.size + 1) R) ⟨(h.push (W.kdv_tup rest)).push (excO C h.objs.size), g, d, t, os⟩) :
    codeAny (model prog w) A (.call (.ref C) ⟨rest, []⟩) R ⟨h, g, d, t, os⟩ := by
  have f1 := tc_lookup
  have f2 := tc_bind (.ref C)
  have ty : (⟨h, g, d, t, os⟩ : Shared).TypeIs (.ref C) "type" := ⟨_, hC, rfl⟩
  refine codeAny_of_tree ?_
  show wpAny _ _ (callAny (.ref C) _) _ _ _
  repeat (any_goals (first | assumption | with_reducible refine wpAny_loadPart_at hC ?_ | wp_step))
  refine ⟨rfl, codeAny_call_builtin_at (Code.quiet_builtin _ (by decide +kernel)) entry_typeCall ?_⟩
  refine wpAny_check_type_call_sub hC (made_inner F U hC hi hb few (codeAny_mono run fun r s' z => ?_))
  rcases r with e | (v | _ | _ | _) <;> exact z
end
end CGX
set_option Elab.async false
set_option linter.all false
set_option maxRecDepth 100000
set_option maxHeartbeats 2000000
namespace CGX
open PySem PySem.HandSPX Builtin Builtin.ObjectAttr
section
variable {prog : Program} {w : World} {A : Around} {E : Value → Shared → Prop} {hp : Heap} {g : Array GenState} {d : Drawn} {t : Nat} {os : OsState}
  {K : W.Frag} {x C t0 : Addr} {B : String} {bmB : List Value}
/-- the first field of a new exception is stored: its dict is laid -/
theorem first_field {nm : Str} {tk : Tok} {v : Value} {R : Result → Shared → Prop} (SF : StoreFacts B bmB "object.__setattr__" "object") (X : K.In hp)
    (hx : hp.get? x = some (excO C t0)) (ov : W.excOver K C bmB = true) (no : W.takerIn K C nm = some none) (hd : W.hasDictIn K C = true)
    (hq : ∀ h' tk' dx, (∀ b o, b ≠ x → hp.get? b = some o → h'.get? b = some o) → hp.objs.size ≤ dx → dx ≠ x →
      h'.get? x = some { excO C t0 with dict := some dx } → h'.Ns1 dx (fun y => if y = nm then some v else none) → R (.ok (.ret .none)) ⟨h', g, d, tk', os⟩) :
    codeAny (model prog w) A (.call (.builtin "object.__setattr__") ⟨[.ref x, .str nm tk, v], []⟩) R ⟨hp, g, d, t, os⟩ := by
  have I : W.InstAt hp x (excO C t0) C none := ⟨hx, rfl, rfl, trivial⟩
  have xs : x ≠ hp.objs.size := Nat.ne_of_lt (Heap.lt_size hx)
  obtain ⟨cd, hcd, hh⟩ := W.any_some hd
  have cls : W.Looks (model prog w) hp (classData C) cd := W.looks_clsIn X hcd
  refine W.osa_openX (s := ⟨hp, g, d, t, os⟩) SF X I ov no fun b => ?_
  show wpAny _ _ (storeInOwnDict (.ref x) (.ref C) (.str nm tk) nm v b) _ _ _
  obtain ⟨n1, n2, n3, n4, n5, n6, n7, n8, n9, n10, n11⟩ := cd
  dsimp only at hh
  subst hh
  unfold storeInOwnDict ownDictForStores
  repeat (first | with_reducible refine store_in_new ?_ ?_ | with_reducible refine wpAny_loadPart_at hx ?_ | with_reducible refine cls.at ?_ | wp_step)
  · refine ⟨_, #[], _, (Heap.get?_update_ne _ _ _ _ xs.symm).trans (Heap.get?_push_at rfl rfl), rfl, fun e he => absurd he (by simp), fun _ => rfl⟩
  · intro h' tk' ns sb
    have hx1 : (hp.push { cls := .type "dict", data := .dict #[] }).get? x = some (excO C t0) := Heap.get?_push_of_some _ hx
    refine hq h' tk' hp.objs.size ?_ (Nat.le_refl _) xs.symm ?_ ns
    · intro b o hb ho
      have hs : b ≠ hp.objs.size := Nat.ne_of_lt (Heap.lt_size ho)
      exact (sb.2 b hs).trans ((Heap.get?_update_ne _ _ _ _ hb).trans (Heap.get?_push_of_some _ ho))
    · exact (sb.2 x xs).trans (Heap.get?_update_self _ hx1 rfl)
end
end CGX
set_option Elab.async false
set_option linter.all false
set_option maxRecDepth 100000
set_option maxHeartbeats 2000000
namespace CGX
open PySem PySem.W PySem.Calls PyProof.Rows PySem.HandSPX
/-! the text: def __init__(self, NM): self.NM = NM -/
def iA (nm : Str) (p1 p2 : Pos) : Arguments :=
  { posonlyargs := [], args := [{ arg := "self", annotation := none, pos := p1 }, { arg := nm, annotation := none, pos := p2 }],
    vararg := none, kwonlyargs := [], kw_defaults := [], kwarg := none, defaults := [] }
def iB (nm : Str) (q1 q2 q3 q4 : Pos) : List Stmt := [.Assign [.Attribute (.Name "self" q1) nm q2] (.Name nm q3) q4]
def iS (nm : Str) : Scope :=
  { kind := .function, names := [(PySem.Str.ofString "self", .local), (nm, .local)], isGenerator := false, isCoroutine := false, more := [] }
/-- what the written part says of such a class, at C, and of its __init__, at fI -/
structure InitTxt (K : Frag) (mg : Str → Option Value) (cn nm : Str) (newId : String) (bmB : List Value) (C fI : Addr) : Prop where
  g : mg cn = some (.ref C)
  q : excInitIn K C bmB newId = true
  ov : excOver K C bmB = true
  hi : findIn K (.ref C) "__init__" = some (some (.ref fI))
  ty : typeIn K (.ref fI) = some (.type "function")
  sa : findIn K (.ref C) "__setattr__" = some (some (.builtin "object.__setattr__"))
  no : takerIn K C nm = some none
  hd : hasDictIn K C = true
  kp : keepIn K (.ref C) = true
  fn : ∃ (oc : Value) (od : Option Addr) (qual : Str) (doc pm : Value) (an : Option Addr) (cdv ct : Value) (osl : Array (Option Value)) (p1 p2 q1 q2 q3 q4 : Pos),
    K.lookup fI = some ⟨oc, od, .func (fnOf "__init__" qual (iA nm p1 p2) (iB nm q1 q2 q3 q4) (iS nm) .none .none doc pm an cdv ct), osl⟩ ∧ codeIn K cdv qual = true
/-- the name's own facts -/
structure NmOk (nm : Str) : Prop where
  ne : ("self" : Str) ≠ nm
  nd : (nm == ("__debug__" : Str)) = false
  bd : ∀ (qual : Str) (p1 p2 q1 q2 q3 q4 : Pos) (doc pm : Value) (an : Option Addr) (cdv ct a b : Value),
    bindArgs (fnOf "__init__" qual (iA nm p1 p2) (iB nm q1 q2 q3 q4) (iS nm) .none .none doc pm an cdv ct) ⟨[a, b], []⟩ = pure ((["self", nm] : List Str).zip [a, b])
  l1 : List.lookup ("self" : Str) (iS nm).names = some NameKind.local
  l2 : List.lookup nm (iS nm).names = some NameKind.local
theorem nm_line : NmOk "line" := ⟨by decide +kernel, by decide +kernel, fun _ _ _ _ _ _ _ _ _ _ _ _ _ _ => rfl, rfl, rfl⟩
theorem nm_wanted : NmOk "wanted" := ⟨by decide +kernel, by decide +kernel, fun _ _ _ _ _ _ _ _ _ _ _ _ _ _ => rfl, rfl, rfl⟩
theorem nm_many : NmOk "many" := ⟨by decide +kernel, by decide +kernel, fun _ _ _ _ _ _ _ _ _ _ _ _ _ _ => rfl, rfl, rfl⟩
theorem nm_limit : NmOk "limit" := ⟨by decide +kernel, by decide +kernel, fun _ _ _ _ _ _ _ _ _ _ _ _ _ _ => rfl, rfl, rfl⟩
theorem nm_given : NmOk "given" := ⟨by decide +kernel, by decide +kernel, fun _ _ _ _ _ _ _ _ _ _ _ _ _ _ => rfl, rfl, rfl⟩
theorem nm_reason : NmOk "reason" := ⟨by decide +kernel, by decide +kernel, fun _ _ _ _ _ _ _ _ _ _ _ _ _ _ => rfl, rfl, rfl⟩
/-- what a made one is -/
structure MadeI (h h' : Heap) (e C d : Addr) (nm : Str) (v : Value) : Prop where
  keep : ∀ b o, h.get? b = some o → h'.get? b = some o
  new : h.objs.size ≤ e
  dbig : h.objs.size ≤ d
  dne : d ≠ e
  obj : ∃ t, h'.get? e = some { excO C t with dict := some d }
  ns : h'.Ns1 d (fun y => if y = nm then some v else none)
theorem one_fits (v : Value) : [v].length ≤ sizeLine := by
  rw [sizeLine_eq]; exact (by decide : 1 ≤ 16777216)
section
variable {prog : Program} {w : World} {A : Around} {R : Result → Shared → Prop} {s : Shared} {K : Frag} {mg : Str → Option Value}
  {cn nm : Str} {C fI : Addr} {B newId : String} {bmB : List Value}
theorem init_runs (T : InitTxt K mg cn nm newId bmB C fI) (O : NmOk nm) (SF : StoreFacts B bmB "object.__setattr__" "object") {x t0 : Addr} {v : Value}
    (X : K.In s.heap) (lim : s.heap.NoLimit) (hx : s.heap.get? x = some (excO C t0)) (room : A.depth < recursionLimit)
    (hq : ∀ h' tk dx, (∀ b o, b ≠ x → s.heap.get? b = some o → h'.get? b = some o) → s.heap.objs.size ≤ dx → dx ≠ x →
      h'.get? x = some { excO C t0 with dict := some dx } → h'.Ns1 dx (fun y => if y = nm then some v else none) →
      R (.ok (.ret .none)) { s with heap := h', toks := tk }) :
    codeAny (model prog w) A (.call (.ref fI) ⟨[.ref x, v], []⟩) R s := by
  obtain ⟨oc, od, qual, doc, pm, an, cdv, ct, osl, p1, p2, q1, q2, q3, q4, ho, hcd⟩ := T.fn
  have nd : (["self", nm] : List Str).Nodup := by simp [O.ne]
  refine Att.call_fn (binds := (["self", nm] : List Str).zip [.ref x, v]) X lim ho hcd room (BindsTo.of_eq (O.bd _ _ _ _ _ _ _ _ _ _ _ _ _ _)) ?_ (fun s₁ IC => ?_) rfl rfl rfl
  · have l1 := O.l1
    have l2 := O.l2
    simp only [List.zip_cons_cons, List.zip_nil_right, List.all_cons, List.all_nil]
    rw [l1, l2]
    rfl
  · obtain ⟨h₁, tk₁, rfl⟩ := IC.toInCall.same
    have k : ∀ b o, s.heap.get? b = some o → h₁.get? b = some o := IC.toInCall.keep
    have X₁ : K.In h₁ := X.keeps k
    have hx₁ := k _ _ hx
    have ns := IC.toInCall.ns
    have old : s.heap.objs.size < h₁.objs.size := ns.lt
    have k1 : (envOfC qual (iS nm) s.heap.objs.size fI cdv).kindOf "self" = some .local := O.l1
    have k2 : (envOfC qual (iS nm) s.heap.objs.size fI cdv).kindOf nm = some .local := O.l2
    have a1 := L2.bindL_get (m := fun _ => none) (P := ["self", nm]) (vs := [.ref x, v]) (i := 0) nd rfl rfl k1
    have a2 := L2.bindL_get (m := fun _ => none) (P := ["self", nm]) (vs := [.ref x, v]) (i := 1) nd rfl rfl k2
    show wpAny _ _ (execs _ _) _ _ _
    refine wpAny_execs_cons (plainObj_wpAny_Assign_Attribute ?_ (by rfl))
    refine wpAny_Name (wpAny_loadName_local rfl k2 ns a2 ?_) O.nd
    refine wpAny_Name (wpAny_loadName_local rfl k1 ns a1 ?_) (by decide)
    refine set_plain X₁ (ox := excO C t0) (od := none) ⟨hx₁, rfl, rfl, trivial⟩ T.sa ?_
    refine first_field SF X₁ hx₁ T.ov T.no T.hd fun h₃ tk₃ dx k₃ dn dne hx₃ hn₃ => ?_
    show wpAny _ _ (execs _ _) _ _ _
    exact wpAny_execs_nil (hq h₃ tk₃ dx (fun b o hb e => k₃ b o hb (k b o e)) (Nat.le_trans (Nat.le_of_lt old) dn) dne hx₃ hn₃)
end
end CGX
set_option Elab.async false
set_option linter.all false
set_option maxRecDepth 100000
set_option maxHeartbeats 2000000
namespace CGX
open PySem PySem.Spec PyProof.Rows L2
/-! ### what is tracked -/
/-- at a: an exception of the class at C, without fields, its args at t -/
def evA (a C t : Addr) : HO := .ext fun h => h.get? a = some (HandSPX.excO C t)
/-- at a: an exception of the class at C whose fields lie at dx -/
def evF (a C dx : Addr) : HO := .ext fun h => ∃ t, h.get? a = some { HandSPX.excO C t with dict := some dx }
section
variable {P : Program} {w : World} {H : Hp} {h : Heap} {a C t dx : Addr}
theorem evA_ok (e : h.get? a = some (HandSPX.excO C t)) : ObjOk P w H h a (evA a C t) := ⟨e, ⟨_, e⟩, fun _ _ z k => k _ z⟩
theorem evF_ok (e : h.get? a = some { HandSPX.excO C t with dict := some dx }) : ObjOk P w H h a (evF a C dx) :=
  ⟨⟨t, e⟩, ⟨_, e⟩, fun _ _ ⟨t, z⟩ k => ⟨t, k _ z⟩⟩
theorem evA_at (ok : HOk P w H h) (e : H a = some (evA a C t)) : h.get? a = some (HandSPX.excO C t) := by
  have z : ObjOk P w H h a (.ext fun h => h.get? a = some (HandSPX.excO C t)) := ok a _ e
  exact z.1
theorem evF_at (ok : HOk P w H h) (e : H a = some (evF a C dx)) : ∃ t, h.get? a = some { HandSPX.excO C t with dict := some dx } := by
  have z : ObjOk P w H h a (.ext fun h => ∃ t, h.get? a = some { HandSPX.excO C t with dict := some dx }) := ok a _ e
  exact z.1
end
/-- two new objects laid and tracked at once -/
theorem laid2 {X : Cx} {pins : List (Addr × Obj)} {σ : L2.St} {H : Hp} {s : Shared} {h' : Heap} {a b : Addr} {o p : HO} {t' : Nat} (I : Inv X pins σ H s)
    (k : ∀ c u, s.heap.get? c = some u → h'.get? c = some u) (ha : s.heap.get? a = none) (hb : s.heap.get? b = none) (na : H a = none) (nb : H b = none)
    (ne : b ≠ a) (oa : ObjOk X.prog X.w (upd (upd H b p) a o) h' a o) (ob : ObjOk X.prog X.w (upd (upd H b p) a o) h' b p) :
    Inv X pins σ (upd (upd H b p) a o) { s with heap := h', toks := t' } := by
  have old : ∀ {c : Addr} {u : HO}, H c = some u → upd (upd H b p) a o c = some u := by
    intro c u e
    rw [upd_ne (ne_of_none e na), upd_ne (ne_of_none e nb)]
    exact e
  refine I.un (t' := t') ⟨fun c u q _ _ _ => k c u q, fun c u q _ _ _ => ⟨u.slots, k c u q⟩, fun c u q n _ => ?_, fun c u q _ => ⟨u, k c u q⟩,
    fun c xs q => old q, fun c u z q => old q, fun c ps q => ⟨#[], by rw [old q]; simp⟩⟩ ?_
  · rw [upd_ne (fun z => by rw [z, ha] at q; cases q), upd_ne (fun z => by rw [z, hb] at q; cases q)]
    exact n
  · intro c u e
    by_cases ca : c = a
    · subst ca
      rw [upd_same] at e
      cases e
      exact oa
    · rw [upd_ne ca] at e
      by_cases cb : c = b
      · subst cb
        rw [upd_same] at e
        cases e
        exact ob
      · rw [upd_ne cb] at e
        exact (I.hok c u e).stay (fun z v _ q => k z v q) (fun z q => old q) fun z xs q => old q
section
variable {X : Cx} {x nm : Str} {e : Expr} {te : TE} {p pos : Pos} {C fI : Addr}
/-- X(e), an own class without an __init__ of its own: the exception and its args are tracked -/
theorem pe_excA {bmB : List Value} {B newId initId : String} (F : ExcBaseFacts B newId initId bmB) (q : PySem.W.excIn X.K C bmB newId = true)
    (gC : X.mg x = some (.ref C)) (kC : PySem.W.keepIn X.K (.ref C) = true) (he : PE X e te) (hg : Gl X x := by rfl)
    (hs : starEach [e] X.env = (false, eval e X.env) :: starEach [] X.env := by rfl) (hdb : (x == ("__debug__" : Str)) = false := by decide) :
    PE X (.Call (.Name x p) [e] [] pos) (fun σ H Q => te σ H fun v H1 => ∀ a t, H1 a = none → H1 t = none → t ≠ a →
      Q (.ref a) (upd (upd H1 t (.tup [v])) a (evA a C t))) := by
  constructor
  intro pins s σ H Q I h
  refine wpAny_Call_Name_kw (ld_glob I hg gC (PySem.W.callWith_K (h₀ := X.base) I.ok.mod.kin kC ?_ hs (by rfl)) hdb)
  rw [hs]
  refine Calls.spliced_cons (thn (he.run pins s σ H _ I h) ?_)
  rintro u s1 ⟨v, H1, I1, r1, q1⟩
  refine Calls.spliced_nil ⟨I1.kIn, ?_⟩
  show wpAny _ _ (call (.ref C) [u]) _ _ _
  obtain ⟨bm, N, n1, n2, bs, n3, sn, sub, ab, col, dd, k0, k1, k2, k3, k5, mN, hC, hN, hni, T⟩ := exc_obj I1.kIn q
  refine wpAny_call_exc_subT F T hC hN hni (fun h' a hm => ?_) (by show 1 ≤ sizeLine; rw [sizeLine_eq]; omega)
  obtain ⟨t, ht, tn, tt⟩ := hm.there
  have na := I1.hok.gone hm.new
  have nt := I1.hok.gone tn
  have ne : t ≠ a := by
    rintro rfl
    rw [ht] at tt
    cases tt
  refine ⟨.ref a, _, laid2 I1 hm.keeps hm.new tn na nt ne (evA_ok ht) ?_, rfl, q1 a t na nt ne⟩
  exact ⟨by show 1 ≤ sizeLine; rw [sizeLine_eq]; omega, [u], .cons r1 .nil, _, tt, rfl, _, rfl⟩
/-- X(e), an own class whose __init__ keeps its one argument -/
theorem pe_excI {cn : Str} {bmB : List Value} {B B' newId initId : String} {bmA : List Value} {k : Nat} (F : ExcBaseFacts B' newId initId bmA)
    (SF : StoreFacts B bmB "object.__setattr__" "object") (T : InitTxt X.K X.mg cn nm newId bmB C fI) (O : NmOk nm) (hr : Room (k + 1) X.A)
    (b1 : bmB.contains (.type B') = true) (b2 : bmB.contains (.type "AttributeError") = false) (b3 : bmB.contains (.type "NameError") = false)
    (he : PE X e te) (hg : Gl X cn := by rfl)
    (hs : starEach [e] X.env = (false, eval e X.env) :: starEach [] X.env := by rfl) (hdb : (cn == ("__debug__" : Str)) = false := by decide) :
    PE X (.Call (.Name cn p) [e] [] pos) (fun σ H Q => te σ H fun v H1 => ∀ a d, H1 a = none → H1 d = none → d ≠ a →
      Q (.ref a) (upd (upd H1 d (.xd [(nm, v)])) a (evF a C d))) := by
  constructor
  intro pins s σ H Q I h
  refine wpAny_Call_Name_kw (ld_glob I hg T.g (PySem.W.callWith_K (h₀ := X.base) I.ok.mod.kin T.kp ?_ hs (by rfl)) hdb)
  rw [hs]
  refine Calls.spliced_cons (thn (he.run pins s σ H _ I h) ?_)
  rintro u s1 ⟨v, H1, I1, r1, q1⟩
  refine Calls.spliced_nil ⟨I1.kIn, ?_⟩
  show wpAny _ _ (call (.ref C) [u]) _ _ _
  obtain ⟨n1, N, n2, bs, bm, n3, sn, sub, ab, col, dd, k0, k1, k2, k3, k5, hC, hT⟩ := PySem.W.excInit_of I1.kIn T.q
  have U : Above C bm B' := ⟨by rw [List.contains_cons, hT, b1, Bool.or_true], by rw [List.contains_cons, hT, b2]; rfl, by rw [List.contains_cons, hT, b3]; rfl⟩
  have KI := I1.kIn
  have NL := I1.nolimit
  obtain ⟨hp, g, dr, tk, os⟩ := s1
  have kp : ∀ b o, hp.get? b = some o → ((hp.push (PySem.W.kdv_tup [u])).push (HandSPX.excO C hp.objs.size)).get? b = some o :=
    fun b o e => Heap.get?_push_of_some _ (Heap.get?_push_of_some _ e)
  have new1 : ((hp.push (PySem.W.kdv_tup [u])).push (HandSPX.excO C hp.objs.size)).get? (hp.objs.size + 1) = some (HandSPX.excO C hp.objs.size) := by heap_get
  refine wpAny_call (made_by_init F U hC (PySem.W.looks_findIn KI T.hi) (fun self => PySem.W.bind_fn KI self T.ty) (one_fits u)
    (init_runs (s := ⟨(hp.push (PySem.W.kdv_tup [u])).push (HandSPX.excO C hp.objs.size), g, dr, tk, os⟩) T O SF (KI.keeps kp) (NL.keeps kp) new1 ?_ ?_))
  · exact (hr.make C [u] []).depth
  · intro h' tk' dx k' big dne hx ns
    have size : hp.objs.size + 2 ≤ dx := by
      have z := big
      rw [Heap.size_push, Heap.size_push] at z
      omega
    have gone : ∀ {c : Addr}, hp.objs.size ≤ c → hp.get? c = none := fun z => Heap.get?_none_of_le z
    have ha := gone (c := hp.objs.size + 1) (by omega)
    have hd := gone (c := dx) (by omega)
    have na := I1.hok.gone ha
    have nd := I1.hok.gone hd
    refine ⟨rfl, .ref (hp.objs.size + 1), _, laid2 (s := ⟨hp, g, dr, tk, os⟩) (h' := h') (t' := tk') I1 (fun c o z => k' c o (Nat.ne_of_lt (Nat.lt_succ_of_lt (Heap.lt_size z))) (kp c o z)) ha hd na nd dne (evF_ok hx) ?_, rfl,
      q1 _ dx na nd dne⟩
    refine ⟨_, ns, fun f => ?_⟩
    by_cases hf : f = nm
    · subst hf
      have z : List.lookup f [(f, v)] = some v := by simp [List.lookup]
      rw [if_pos rfl, z]
      exact r1
    · rw [if_neg hf]
      have z : (f == nm) = false := by simpa using hf
      simp [List.lookup, z, RelO]
end
end CGX
set_option Elab.async false
set_option linter.all false
set_option maxRecDepth 100000
set_option maxHeartbeats 2000000
namespace CGX
open PySem PySem.Spec PyProof.Rows L2
open PySem.W (clsIn findIn subIn mroIn specialIn takesIn hasDictIn kitOne Frag)
/-- what the written part says of one of the program's exception classes -/
structure ExK (K : Frag) (C : Addr) : Prop where
  cl : (clsIn K C).isSome = true
  ga : findIn K (.ref C) "__getattribute__" = some (some (.builtin "BaseException.__getattribute__"))
  gt : findIn K (.ref C) "__getattr__" = some none
  sub : subIn K (.ref C) (.type "BaseException") = some true
  cls : findIn K (.ref C) "__class__" = some (some (.builtin "object.__class__"))
  ob : mroIn K C (.type "object") = some true
  st : findIn K (.ref C) "__str__" = some (some (.builtin "BaseException.__str__")) ∨ True
structure ExG (K : Frag) : Prop where
  gt : specialIn K (.builtin "object.__class__") "__get__" = some (some (.builtin "getset_descriptor.__get__"))
  tk : takesIn K (.builtin "object.__class__") = some true
/-- an exception of the class at C stands at a -/
def ExAt (H : Hp) (a C : Addr) : Prop := (∃ t, H a = some (evA a C t)) ∨ ∃ dx fs, H a = some (evF a C dx) ∧ H dx = some (.xd fs)
section
variable {X : Cx} {pins : List (Addr × Obj)} {σ : L2.St} {H : Hp} {s : Shared} {a C : Addr}
theorem ExAt.inst (I : Inv X pins σ H s) (e : ExAt H a C) : ∃ ox od, PySem.W.InstAt s.heap a ox C od := by
  rcases e with ⟨t, e⟩ | ⟨dx, fs, e, d⟩
  · exact ⟨_, none, evA_at I.hok e, rfl, rfl, trivial⟩
  · obtain ⟨t, z⟩ := evF_at I.hok e
    have od : ObjOk X.prog X.w H s.heap dx (.xd fs) := I.hok dx _ d
    obtain ⟨mA, ⟨o, es, ep, q, r⟩, _⟩ := od
    exact ⟨_, some o, z, rfl, rfl, q⟩
theorem call_isiE (G : ExG X.K) : CallR X (.builtin "isinstance") (fun xs H Q => ∃ a c C u b, xs = [.ref a, c] ∧ ExAt H a C ∧ ExK X.K C ∧ ClsV c u ∧
    kitOne X.K (.ref C) u = some b ∧ Q (.bl b) H) := by
  intro pins s σ H xs us Q I r h
  obtain ⟨a, c, C, u, b, rfl, e, T, k, kit, q⟩ := h
  obtain ⟨u1, u2, rfl, r1, r2⟩ := vals2 r
  have r1' : u1 = Value.ref a := r1
  subst r1'
  have k' := k.eq r2
  subst k'
  obtain ⟨ox, od, J⟩ := e.inst I
  exact PySem.W.kia_one (PySem.W.kitx_exc T.cl T.ga T.gt T.sub T.cls G.gt G.tk T.ob) I.kIn J kit (fun z => nomatch z) fun tk => ⟨.bl b, H, I.tok tk, rfl, q⟩
theorem call_strE (hu : X.A.units + 2 < cLine) : CallR X (.type "str") (fun xs H Q => ∃ a C t z, xs = [.ref a] ∧ H a = some (evA a C t) ∧ H t = some (.tup [.str z]) ∧
    ExK X.K C ∧ findIn X.K (.ref C) "__str__" = some (some (.builtin "BaseException.__str__")) ∧ Q (.str z) H) := by
  intro pins s σ H xs us Q I r h
  obtain ⟨a, C, t, z, rfl, e, et, T, hs, q⟩ := h
  obtain ⟨u1, rfl, r1⟩ := vals1 r
  have r1' : u1 = Value.ref a := r1
  subst r1'
  have ht : ObjOk X.prog X.w H s.heap t (.tup [.str z]) := I.hok t _ et
  obtain ⟨_, its, rv, o, h1, h2, n, h3⟩ := ht
  cases rv with
  | cons rz rn =>
    cases rn
    obtain ⟨tk, rfl⟩ := rz
    refine PySem.P.str_of_C_one hu ⟨I.kIn, _, _, evA_at I.hok e, rfl, rfl, rfl⟩ ⟨o, n, h1, h2, h3⟩ hs T.sub ?_
    exact ⟨.str z, H, I, ⟨tk, rfl⟩, q⟩
variable {f : Str} {e : Expr} {te : TE} {pos : Pos}
theorem pe_fldE (he : PE X e te) (hb : attributeBase e f X.env (eval e X.env) = eval e X.env := by rfl) :
    PE X (.Attribute e f pos) (fun σ H Q => te σ H fun x H1 => ∃ a C dx v, x = .ref a ∧ ExK X.K C ∧ findIn X.K (.ref C) f = some none ∧
      hasDictIn X.K C = true ∧ H1 a = some (evF a C dx) ∧ H1 dx = some (.xd [(f, v)]) ∧ Q v H1) := by
  constructor
  intro pins s σ H Q I h
  refine attr_of hb (thn (he.run pins s σ H _ I h) ?_)
  rintro u s1 ⟨x, H1, I1, rx, a, C, dx, v, rfl, T, no, hd, ea, ed, q⟩
  have rx' : u = Value.ref a := rx
  subst rx'
  obtain ⟨t, z⟩ := evF_at I1.hok ea
  have od : ObjOk X.prog X.w H1 s1.heap dx (.xd [(f, v)]) := I1.hok dx _ ed
  obtain ⟨mA, ns, rel⟩ := od
  obtain ⟨o, ho, hl⟩ := lookIn_ns ns
  have lk : List.lookup f [(f, v)] = some v := by simp [List.lookup]
  obtain ⟨w', hw, rw'⟩ := RelO.some_of (v := v) (o := mA f) (by rw [← lk]; exact rel f)
  have J : PySem.W.InstAt s1.heap a _ C (some o) := ⟨z, rfl, rfl, ho⟩
  exact HandSPX.exc_get I1.kIn J T.ga T.gt T.sub (PySem.W.findObj_own hd no rfl (by rw [hl, hw])) (handed_of rw') ⟨v, H1, I1.tok _, rw', q⟩
end
end CGX
set_option Elab.async false
set_option linter.all false
set_option maxRecDepth 100000
set_option maxHeartbeats 2000000
namespace LQ
open PySem L2 CG CGX
/-! ### the text by places -/
def top (i : Nat) : Stmt := PySem.Challenge.pw_chosentrees_k01_symbols_and_rows_of_term.main.body.getD i (.Pass ⟨0, 0, 0, 0⟩)
abbrev sSmall : Stmt := top 13
abbrev sWord : Stmt := top 14
abbrev sTerm : Stmt := top 15
abbrev sNont : Stmt := top 16
abbrev sName : Stmt := top 17
abbrev sTerms : Stmt := top 18
abbrev sOrder : Stmt := top 19
abbrev sBefore : Stmt := top 20
abbrev sWrite : Stmt := top 21
abbrev sRead : Stmt := top 22
abbrev sDice : Stmt := top 24
abbrev sRoll : Stmt := top 25
abbrev sPick : Stmt := top 26
abbrev sIsSmall : Stmt := top 27
abbrev sIsTold : Stmt := top 28
abbrev sTold : Stmt := top 29
abbrev sWordL : Stmt := top 30
abbrev sRow : Stmt := top 31
abbrev sErr : Stmt := top 32
abbrev sLines : Stmt := top 33
abbrev sOrd : Stmt := top 34
abbrev sRight : Stmt := top 35
abbrev sLaw : Stmt := top 36
/-! ### dice: a list of three numbers -/
def DiceAt (H : Hp) (d : Addr) : Prop := ∃ a b c : Int, H d = some (.lst [.int a, .int b, .int c])
/-- all but what stands at d is as it was -/
def But (d : Addr) (H H' : Hp) : Prop := ∀ b, b ≠ d → H' b = H b
theorem But.trans {d : Addr} {H H1 H2 : Hp} (a : But d H H1) (b : But d H1 H2) : But d H H2 := fun c n => (b c n).trans (a c n)
def spDice (K : PySem.W.Frag) : Sp := fun vs H Q _ => ∃ (s : Addr) (ns : List Int) (k : Nat), vs = [.ref s, .int k] ∧ SqL K H s (ns.map V.int) ∧
  ∀ p a b, H p = none → Q (.ref p) (upd H p (.lst [.int a, .int b, .int 0]))
def spRoll : Sp := fun vs H Q _ => ∃ (d : Addr) (n : Int), vs = [.ref d, .int n] ∧ DiceAt H d ∧ 0 < n ∧ n < 1073741824 ∧
  ∀ r H', 0 ≤ r → r < n → DiceAt H' d → But d H H' → Q (.int r) H'
def spPick : Sp := fun vs H Q _ => ∃ (d l : Addr) (xs : List V), vs = [.ref d, .ref l] ∧ DiceAt H d ∧ H l = some (.lst xs) ∧ l ≠ d ∧ 0 < xs.length ∧ xs.length < 1000 ∧
  ∀ v H', v ∈ xs → DiceAt H' d → But d H H' → Q v H'
/-- built-in names that the module does not hide -/
structure Blt (mg : Str → Option Value) : Prop where
  len : mg "len" = none
  int : mg "int" = none
  abs : mg "abs" = none
  max : mg "max" = none
section
variable {P : Program} {w : World} {K : PySem.W.Frag} {mg : Str → Option Value} {base : Heap}
theorem scD : FnScope ["_law_script", "_law_spot", "_law_cell", "_law_great", "_law_blend"] ["_law_script", "_law_spot"] (defScope sDice) :=
  ⟨rfl, rfl, rfl, by decide +kernel, rfl, by decide +kernel, by decide +kernel⟩
theorem big58 : (0 : Int) ≤ 10 ∧ (Builtin.Int.intBits ((10 : Int) ^ (58 : Int).toNat) : Int) * 10 ≤ 2 ^ 27 := ⟨by decide, by decide +kernel⟩
theorem pos580 : (0 : Int) < ((10 : Int) ^ (58 : Int).toNat) ^ (10 : Int).toNat := by decide +kernel
theorem below (g : Int) : -(2 ^ 64) < g % 2305843009213693907 ∧ g % 2305843009213693907 < 2 ^ 64 := by
  have a := Int.emod_nonneg g (b := 2305843009213693907) (by decide)
  have b := Int.emod_lt_of_pos g (b := 2305843009213693907) (by decide)
  omega
theorem ok_dice {f : Addr} {fd : FuncData} (F : Fun K "_law_dice" "_law_dice" sDice f fd) (T : Blt mg) :
    FnOk P w K mg base CX0 1 f fd ["_law_script", "_law_spot"] (spDice K) := by
  refine F.ok scD (fun vs H Q E h => ?_) (fun cdv A outer s H vs Q E hr h => ?_)
  · obtain ⟨s, ns, k, rfl, _⟩ := h
    rfl
  · obtain ⟨s, ns, k, rfl, hS, q⟩ := h
    refine ⟨_, pss_cons (ps_set (i := 2) scD.nd rfl (Or.inl rfl) (pe_ifExp
          (pt_cmpR op_lt (pv 1) (pe_callB call_len (by rfl) T.len PySem.boot_len (pa_cons (pv 0) pa_nil)) (nomark _))
          (pe_ix ix_list (pv 0) (pv 1) (fun _ _ => rfl)) (pe_op op_add (pe_op op_mul pe_int (pv 1)) pe_int)))
      (pss_cons (ps_set (i := 3) scD.nd rfl (Or.inl rfl) (pe_op op_mod
          (pe_callTy call_int1 (by rfl) T.int PyProof.Rows.boot_int (pa_cons (pe_callB call_abs (by rfl) T.abs PyProof.Rows.boot_abs (pa_cons (pv 2) pa_nil)) pa_nil))
          (pe_op op_powB (pe_op op_pow pe_int pe_int) pe_int)))
      (pss_cons (ps_set (i := 4) scD.nd rfl (Or.inl rfl) (pe_op op_add (pe_op op_add (pe_op op_add
          (pe_op op_mul (pe_op op_mod (pe_callTy call_int1 (by rfl) T.int PyProof.Rows.boot_int (pa_cons (pv 3) pa_nil)) pe_int) pe_int)
          (pe_op op_mul pe_int (pv 1)))
          (pe_op op_mul pe_int (pe_callTy call_int1 (by rfl) T.int PyProof.Rows.boot_int (pa_cons (pe_cmpR op_lt (pv 2) pe_int (nomark _)) pa_nil)))) pe_int))
      (pss_one (ps_ret (pe_lst (pa_cons (pe_callB (call_max2 rfl) (by rfl) T.max PyProof.Rows.boot_max
          (pa_cons pe_int (pa_cons (pe_op op_sub (pv 3) (pe_op op_pow pe_int pe_int)) pa_nil)))
        (pa_cons (pe_op op_mod (pe_callTy call_int1 (by rfl) T.int PyProof.Rows.boot_int (pa_cons (pv 4) pa_nil)) pe_int) (pa_cons pe_int pa_nil)))))))), ?_⟩
    refine ⟨_, rfl, _, rfl, .ref s, _, rfl, .inl ⟨_, hS, rfl⟩, _, _, rfl, rfl, _, rfl, ?_⟩
    refine ite2 (fun hlt => ?_) (fun _ => ?_)
    rotate_left
    · refine ⟨_, rfl, _, _, rfl, rfl, .inl (by decide), _, _, rfl, rfl, ?_⟩
      refine ⟨_, rfl, _, rfl, .inl ⟨_, rfl, _, _, rfl, rfl, ⟨by decide, by decide, by decide⟩, _, _, rfl, rfl, big58, _, _, rfl, rfl, pos580, ?_⟩⟩
      refine ⟨_, rfl, .inl ⟨_, rfl, _, _, rfl, rfl, (show (0 : Int) < 2305843009213693907 by decide), _, _, rfl, rfl, .inl (below _), _, rfl, _, _, rfl, rfl, .inl (by decide), _, _, rfl, rfl,
        _, rfl, _, _, rfl, rfl, .inr ⟨_, rfl, _, _, rfl, rfl, .inl (by decide), _, _, rfl, rfl, _, _, rfl, rfl, ?_⟩⟩⟩
      refine ⟨_, rfl, _, _, rfl, rfl, ⟨by decide, by decide, by decide⟩, _, _, rfl, rfl, _, _, rfl, _, rfl, .inl ⟨_, rfl, _, _, rfl, rfl, (show (0 : Int) < 2305843009213693921 by decide),
        (by show 3 ≤ sizeLine; decide), fun p hp => q p _ _ hp⟩⟩
    · rw [List.length_map] at hlt
      have hk : k < ns.length := by exact_mod_cast (of_decide_eq_true hlt)
      refine ⟨_, rfl, _, rfl, s, _, _, _, rfl, rfl, hS, atI_nat (v := .int ns[k]) (by simp [hk]), ?_⟩
      refine ⟨_, rfl, _, rfl, .inl ⟨_, rfl, _, _, rfl, rfl, ⟨by decide, by decide, by decide⟩, _, _, rfl, rfl, big58, _, _, rfl, rfl, pos580, ?_⟩⟩
      refine ⟨_, rfl, .inl ⟨_, rfl, _, _, rfl, rfl, (show (0 : Int) < 2305843009213693907 by decide), _, _, rfl, rfl, .inl (below _), _, rfl, _, _, rfl, rfl, .inl (by decide), _, _, rfl, rfl,
        _, rfl, _, _, rfl, rfl, .inr ⟨_, rfl, _, _, rfl, rfl, .inl (by decide), _, _, rfl, rfl, _, _, rfl, rfl, ?_⟩⟩⟩
      refine ⟨_, rfl, _, _, rfl, rfl, ⟨by decide, by decide, by decide⟩, _, _, rfl, rfl, _, _, rfl, _, rfl, .inl ⟨_, rfl, _, _, rfl, rfl, (show (0 : Int) < 2305843009213693921 by decide),
        (by show 3 ≤ sizeLine; decide), fun p hp => q p _ _ hp⟩⟩
end
end LQ
set_option Elab.async false
set_option linter.all false
set_option maxRecDepth 100000
set_option maxHeartbeats 2000000
namespace LQ
open PySem L2 CG CGX
section
variable {P : Program} {w : World} {K : PySem.W.Frag} {mg : Str → Option Value} {base : Heap}
theorem scR : FnScope ["_law_dice_here", "_law_total", "_law_found", "_law_one", "_law_two"] ["_law_dice_here", "_law_total"] (defScope sRoll) :=
  ⟨rfl, rfl, rfl, by decide +kernel, rfl, by decide +kernel, by decide +kernel⟩
theorem under {g j b : Int} (hj : 0 < j) (hb : j ≤ b) (hb2 : b ≤ 2 ^ 64) : -(2 ^ 64) < g % j ∧ g % j < 2 ^ 64 := by
  have a := Int.emod_nonneg g (b := j) (by omega)
  have b := Int.emod_lt_of_pos g (b := j) hj
  omega
theorem ok_roll {f : Addr} {fd : FuncData} (F : Fun K "_law_roll" "_law_roll" sRoll f fd) (T : Blt mg) :
    FnOk P w K mg base CX0 1 f fd ["_law_dice_here", "_law_total"] spRoll := by
  refine F.ok scR (fun vs H Q E h => ?_) (fun cdv A outer s H vs Q E hr h => ?_)
  · obtain ⟨d, n, rfl, _⟩ := h
    rfl
  · obtain ⟨d, n, rfl, ⟨a, b, c, hd⟩, n0, n1, q⟩ := h
    refine ⟨_, pss_cons (ps_if (pt_cmpR op_gt (pe_ix ix_list (pv 0) pe_int (fun _ _ => rfl)) pe_int (nomark _))
        (pss_cons (ps_set (i := 2) scR.nd rfl (Or.inl rfl) (pe_op op_mod (pe_callTy call_int1 (by rfl) T.int PyProof.Rows.boot_int (pa_cons (pe_ix ix_list (pv 0) pe_int (fun _ _ => rfl)) pa_nil)) (pv 1)))
        (pss_cons (ps_asg (pe_op op_fdiv (pe_ix ix_list (pv 0) pe_int (fun _ _ => rfl)) (pv 1)) (pg_sub (pv 0) pe_int set_list))
        (pss_one (ps_ret (pv 2))))) pss_nil)
      (pss_cons (ps_asg (pe_op op_add (pe_ix ix_list (pv 0) pe_int (fun _ _ => rfl)) pe_int) (pg_sub (pv 0) pe_int set_list))
      (pss_cons (ps_set (i := 3) scR.nd rfl (Or.inl rfl) (pe_op op_mod (pe_callTy call_int1 (by rfl) T.int PyProof.Rows.boot_int (pa_cons
        (pe_op op_add (pe_ix ix_list (pv 0) pe_int (fun _ _ => rfl)) (pe_op op_mul pe_int (pe_ix ix_list (pv 0) pe_int (fun _ _ => rfl)))) pa_nil)) pe_int))
      (pss_cons (ps_set (i := 4) scR.nd rfl (Or.inl rfl) (pe_op op_add (pe_op op_mul (pe_op op_mod (pe_callTy call_int1 (by rfl) T.int PyProof.Rows.boot_int (pa_cons
        (pe_op op_mul (pv 3) (pv 3)) pa_nil)) pe_int) (pv 3)) (pe_op op_mul pe_int (pe_ix ix_list (pv 0) pe_int (fun _ _ => rfl)))))
      (pss_one (ps_ret (pe_op op_mod (pe_callTy call_int1 (by rfl) T.int PyProof.Rows.boot_int (pa_cons
        (pe_op op_fdiv (pe_op op_mod (pe_callTy call_int1 (by rfl) T.int PyProof.Rows.boot_int (pa_cons
          (pe_op op_add (pv 4) (pe_ix ix_list (pv 0) pe_int (fun _ _ => rfl))) pa_nil)) pe_int) pe_int) pa_nil)) (pv 1))))))), ?_⟩
    refine ⟨_, rfl, d, _, _, _, rfl, rfl, SqL.of hd, (by rfl), _, _, rfl, rfl, _, rfl, ?_⟩
    refine ite2 (fun _ => ?_) (fun _ => ?_)
    · -- the digits of the great number
      refine ⟨_, rfl, d, _, _, _, rfl, rfl, SqL.of hd, (by rfl), .inl ⟨_, rfl, _, rfl, _, _, rfl, rfl, n0, ?_⟩⟩
      refine ⟨_, rfl, d, _, _, _, rfl, rfl, SqL.of hd, (by rfl), _, rfl, _, _, rfl, rfl, ⟨n0, n1⟩, ?_⟩
      refine ⟨_, rfl, d, _, _, 0, rfl, rfl, hd, (by rfl), ?_⟩
      refine ⟨_, rfl, ?_⟩
      exact q _ _ (Int.emod_nonneg _ (by omega)) (Int.emod_lt_of_pos _ n0) ⟨_, _, _, upd_same⟩ fun b hb => upd_ne hb
    · -- mixed numbers
      refine ⟨_, rfl, d, _, _, _, rfl, rfl, SqL.of hd, (by rfl), _, _, rfl, rfl, ?_⟩
      refine ⟨_, rfl, d, _, _, 2, rfl, rfl, hd, (by rfl), ?_⟩
      have hd2 : (upd H d (.lst [.int a, .int b, .int (c + 1)])) d = some (.lst [.int a, .int b, .int (c + 1)]) := upd_same
      refine ⟨_, rfl, d, _, _, _, rfl, rfl, SqL.of hd2, (by rfl), _, rfl, d, _, _, _, rfl, rfl, SqL.of hd2, (by rfl), _, _, rfl, rfl, .inl (by decide), _, _, rfl, rfl,
        .inl ⟨_, rfl, _, _, rfl, rfl, (show (0 : Int) < 2305843009213693951 by decide), ?_⟩⟩
      refine ⟨_, rfl, _, rfl, _, _, rfl, rfl, .inl (under (b := 2305843009213693951) (by decide) (by decide) (by decide)), .inl ⟨_, rfl, _, _, rfl, rfl, (show (0 : Int) < 1152921504606846883 by decide), _, rfl,
        _, _, rfl, rfl, .inl (under (b := 1152921504606846883) (by decide) (by decide) (by decide)), _, rfl, d, _, _, _, rfl, rfl, SqL.of hd2, (by rfl), _, _, rfl, rfl, .inl (by decide), _, _, rfl, rfl, ?_⟩⟩
      refine ⟨_, rfl, _, rfl, d, _, _, _, rfl, rfl, SqL.of hd2, (by rfl), _, _, rfl, rfl, .inl ⟨_, rfl, _, _, rfl, rfl, (show (0 : Int) < 4398046511093 by decide), _, _, rfl, rfl, ⟨by decide, by decide⟩,
        .inl ⟨_, rfl, _, rfl, _, _, rfl, rfl, n0, ?_⟩⟩⟩
      exact q _ _ (Int.emod_nonneg _ (by omega)) (Int.emod_lt_of_pos _ n0) ⟨_, _, _, upd_same⟩ fun b hb => upd_ne hb
theorem scP : FnScope ["_law_dice_here", "_law_items"] ["_law_dice_here", "_law_items"] (defScope sPick) := ⟨rfl, rfl, rfl, by decide +kernel, rfl, by decide +kernel, by decide +kernel⟩
theorem ok_pick {f fR : Addr} {fd fdR : FuncData} (F : Fun K "_law_pick" "_law_pick" sPick f fd) (T : Blt mg) (FR : Fun K "_law_roll" "_law_roll" sRoll fR fdR)
    (gR : mg "_law_roll" = some (.ref fR)) (bR : Binds K fdR ["_law_dice_here", "_law_total"] []) :
    FnOk P w K mg base CX0 2 f fd ["_law_dice_here", "_law_items"] spPick := by
  have GR : FnOk P w K mg base CX0 1 fR fdR ["_law_dice_here", "_law_total"] spRoll := ok_roll FR T
  refine F.ok scP (fun vs H Q E h => ?_) (fun cdv A outer s H vs Q E hr h => ?_)
  · obtain ⟨d, l, xs, rfl, _⟩ := h
    rfl
  · obtain ⟨d, l, xs, rfl, hd, hl, ne, x0, x1, q⟩ := h
    refine ⟨_, pss_one (ps_ret (pe_ix ix_list (pv 1) (pe_call GR hr rfl gR FR.kp bR .nil pass0
      (pa_cons (pv 0) (pa_cons (pe_callB call_len (by rfl) T.len PySem.boot_len (pa_cons (pv 1) pa_nil)) pa_nil))) (fun _ _ => rfl))), ?_⟩
    refine ⟨_, rfl, _, rfl, _, rfl, .ref l, _, rfl, .inl ⟨_, SqL.of hl, rfl⟩, d, _, rfl, hd, (by omega), (by omega), fun r H' r0 r1 hd' same => ?_⟩
    obtain ⟨j, rfl⟩ := Int.eq_ofNat_of_zero_le r0
    have hj : j < xs.length := by omega
    refine ⟨l, xs, _, xs[j], rfl, rfl, SqL.of ((same l ne).trans hl), atI_nat (by simp [hj]), ?_⟩
    exact q _ _ (List.getElem_mem hj) hd' same
end
end LQ
set_option Elab.async false
set_option linter.all false
set_option maxRecDepth 100000
set_option maxHeartbeats 4000000
namespace LQ
open PySem L2 CG CGX
open PySem.W (kitOne Frag)
/-! ### the mirror: what symbols are -/
def low (c : Nat) : Bool := decide (97 ≤ c ∧ c ≤ 122)
def smallL (l : List Nat) : Bool := l.all low
def signs : List Nat := [33, 38, 40, 41, 42, 43, 44, 45, 46, 47, 58, 59, 60, 61, 62, 63, 91, 93, 94, 124]
def isWord (l : List Nat) : Bool := decide (1 ≤ l.length ∧ l.length ≤ 8) && smallL l
def isTerm (l : List Nat) : Bool := isWord l || match l with | [c] => decide (c ∈ signs) | _ => false
def isNont : List Nat → Bool
  | [] => false
  | c :: r => decide (r.length ≤ 5) && decide (65 ≤ c ∧ c ≤ 90) && smallL r
def isName (l : List Nat) : Bool := isWord l && !decide (l = [115, 104, 105, 102, 116]) && !decide (l = [97, 99, 99, 101, 112, 116])
def lO (f : List Nat → Bool) : Option Str → Bool
  | none => false
  | some z => f z.cps.toList
theorem low_mem (c : Nat) : decide (c ∈ (Str.ofString "abcdefghijklmnopqrstuvwxyz").cps.toList) = low c := by
  rw [show (Str.ofString "abcdefghijklmnopqrstuvwxyz").cps.toList = [97, 98, 99, 100, 101, 102, 103, 104, 105, 106, 107, 108, 109, 110, 111, 112, 113, 114, 115, 116, 117, 118, 119, 120, 121, 122] by decide +kernel]
  unfold low
  congr 1
  simp only [List.mem_cons, List.not_mem_nil, or_false, eq_iff_iff]
  omega
theorem big_mem (c : Nat) : decide (c ∈ (Str.ofString "ABCDEFGHIJKLMNOPQRSTUVWXYZ").cps.toList) = decide (65 ≤ c ∧ c ≤ 90) := by
  rw [show (Str.ofString "ABCDEFGHIJKLMNOPQRSTUVWXYZ").cps.toList = [65, 66, 67, 68, 69, 70, 71, 72, 73, 74, 75, 76, 77, 78, 79, 80, 81, 82, 83, 84, 85, 86, 87, 88, 89, 90] by decide +kernel]
  congr 1
  simp only [List.mem_cons, List.not_mem_nil, or_false, eq_iff_iff]
  omega
theorem sign_mem (c : Nat) : decide (c ∈ (Str.ofString "!&()*+,-./:;<=>?[]^|").cps.toList) = decide (c ∈ signs) := by
  rw [show (Str.ofString "!&()*+,-./:;<=>?[]^|").cps.toList = signs by decide +kernel]
theorem same_upd {H : Hp} {p : Addr} {o : HO} (hp : H p = none) : Same H (upd H p o) := fun b u e => by
  rw [upd_ne (ne_of_none e hp)]; exact e
/-! ### comprehensions: the heap grows, the new list at D -/
theorem lc_gen {J : It} {n : Nat} {G : Hp → Prop} {Y : Nat → Hp → V → Hp → Prop} (w : Walk J n G Y) {tt : TT} {te : TE} {k : Nat} {σ : L2.St} {H1 : Hp} {D : Addr} {Qd : Hp → Prop} (b : Nat → Bool) (y : Nat → V) (hn : n < sizeLine) (nD : H1 D = none)
    (hw : ∀ x, wipe ((wipe σ [k]).set k (some x)) [k] = wipe σ [k]) (hG : ∀ H', Same H1 H' → G H')
    (hs : ∀ i x H' H'', i < n → Same H1 H' → Y i H' x H'' → H'' = H' ∧ (∀ R : Bool → Hp → Prop, (∀ H3, Same H' H3 → R (b i) H3) → tt ((wipe σ [k]).set k (some x)) H' R) ∧
      (b i = true → ∀ H3, Same H' H3 → ∀ R : VK, (∀ H4, Same H3 H4 → R (y i) H4) → te ((wipe σ [k]).set k (some x)) H3 R))
    (hd : ∀ H', Same H1 H' → H' D = some (.lst (((List.range n).filter b).map y)) → Qd H') :
    ∃ W : Nat → Nat → Hp → Prop, (∃ m, W 0 m (upd H1 D (.lst []))) ∧ ∀ i m H, W i m H →
      (J.stop i H ∧ Qd H) ∨ (J.go i H ∧ ∃ Nx : Hp → Prop, (∀ H', Nx H' → ∃ m', m' < m ∧ W (i + 1) m' H') ∧ ∀ x H', J.yld i H x H' → gName k x (wipe σ [k]) H' fun σ2 H2 => wipe σ2 [k] = wipe σ [k] ∧ tt σ2 H2 fun b H3 =>
        if b = true then te σ2 H3 fun y H4 => ∃ acc, H4 D = some (.lst acc) ∧ acc.length < sizeLine ∧ Nx (upd H4 D (.lst (acc ++ [y]))) else Nx H3) := by
  refine lc_it w (fun i H' => Same H1 H' ∧ H' D = some (.lst (((List.range i).filter b).map y))) ⟨same_upd nD, upd_same⟩ (fun i H' _ z => hG H' z.1) ?_ (fun H' z => hd H' z.1 z.2)
  rintro i x H' H'' hi ⟨same, at'⟩ hy
  obtain ⟨rfl, ht, he⟩ := hs i x H' H'' hi same hy
  refine ⟨hw x, ht _ fun H3 s3 => ?_⟩
  cases hb : b i with
  | false =>
    rw [if_neg (by decide)]
    refine ⟨same.trans s3, ?_⟩
    rw [List.range_succ, List.filter_append, List.map_append]
    simp only [List.filter_cons, List.filter_nil, hb, Bool.false_eq_true, if_false, List.map_nil, List.append_nil]
    exact s3 _ _ at'
  | true =>
    rw [if_pos rfl]
    refine he hb H3 s3 _ fun H4 s4 => ⟨_, s4 _ _ (s3 _ _ at'), ?_, ?_, ?_⟩
    · rw [List.length_map]
      have := List.length_filter_le b (List.range i)
      rw [List.length_range] at this
      omega
    · intro c o z
      rw [upd_ne (ne_of_none z nD)]
      exact s4 _ _ (s3 _ _ (same _ _ z))
    · rw [upd_same, List.range_succ, List.filter_append, List.map_append]
      simp only [List.filter_cons, List.filter_nil, hb, if_true, List.map_cons, List.map_nil]
/-! ### values -/
def NotStr (K : Frag) (H : Hp) (x : V) : Prop := ∃ t, TyX K H x t ∧ kitOne K t (.type "str") = some false
/-- a value, as a string of moderate length or none -/
def Sx (K : Frag) (H : Hp) (x : V) : Option Str → Prop
  | none => NotStr K H x
  | some z => x = .str z ∧ z.length ≤ 10000
/-- built-in names and constants of symbols -/
structure Sy (mg : Str → Option Value) : Prop where
  all : mg "all" = none
  isi : mg "isinstance" = none
  str : mg "str" = none
  tuple : mg "tuple" = none
  len : mg "len" = none
  sml : ∃ t, mg "SMALL_LETTERS" = some (.str "abcdefghijklmnopqrstuvwxyz" t)
  lrg : ∃ t, mg "LARGE_LETTERS" = some (.str "ABCDEFGHIJKLMNOPQRSTUVWXYZ" t)
  sgn : ∃ t, mg "SIGNS" = some (.str "!&()*+,-./:;<=>?[]^|" t)
  mxl : ∃ t, mg "MAX_LETTERS" = some (.int 8 t)
  mxt : ∃ t, mg "MAX_TEXT" = some (.int 60 t)
  msb : ∃ t, mg "MAX_SMALL_BEHIND" = some (.int 5 t)
def spSmallL : Sp := fun vs H Q _ => ∃ z : Str, vs = [.str z] ∧ z.length ≤ 10000 ∧ ∀ H', Same H H' → Q (.bl (smallL z.cps.toList)) H'
def spO (K : Frag) (f : List Nat → Bool) : Sp := fun vs H Q _ => ∃ (x : V) (o : Option Str), vs = [x] ∧ Sx K H x o ∧ ∀ H', Same H H' → Q (.bl (lO f o)) H'
theorem line10000 {n : Nat} (h : n ≤ 10000) : n < sizeLine := Nat.lt_of_le_of_lt h (by decide)
section
variable {P : Program} {w : World} {K : Frag} {mg : Str → Option Value} {base : Heap}
theorem all_range_get (l : List Nat) (p : Nat → Bool) : ((List.range l.length).map fun i => p (l.getD i 0)).all id = l.all p := by
  rw [List.all_map]
  have e : (List.range l.length).map (fun j => l.getD j 0) = l := PyProof.Rows.range_getD l 0
  conv => rhs; rw [← e]
  rw [List.all_map] <;> rfl
theorem filter_true {α : Type} (l : List α) : l.filter (fun _ => true) = l := by simp
theorem scSm : FnScope ["text", "letter"] ["text"] (defScope sSmall) := ⟨rfl, rfl, rfl, by decide +kernel, rfl, by decide +kernel, by decide +kernel⟩
theorem ok_small {f : Addr} {fd : FuncData} (F : Fun K "has_small_letters" "has_small_letters" sSmall f fd) (T : Sy mg) : FnOk P w K mg base CX0 1 f fd ["text"] spSmallL := by
  refine F.ok scSm (fun vs H Q E h => ?_) (fun cdv A outer s H vs Q E hr h => ?_)
  · obtain ⟨z, rfl, _⟩ := h
    rfl
  · obtain ⟨z, rfl, hz, q⟩ := h
    obtain ⟨ts, hts⟩ := T.sml
    refine ⟨_, pss_one (ps_ret (pe_callB (cr_all rfl) (by rfl) T.all PyProof.Rows.boot_all (pa_cons (pe_lc (own := [("letter", 1)]) (g := gName 1) (tt := tYes) rfl scSm.nd (pi_str (pv 0))
      (blkOk_by (N := ["text", "letter"]) (sc := defScope sSmall) (by decide +kernel)) (fun _ _ _ _ _ => pg_name (i := 1) scSm.nd rfl (Or.inl rfl)) (fun _ _ _ _ _ => pts_nil)
      (fun _ _ _ _ _ => pe_cmpR op_in_sign (pv 1) (pe_glob (v := .str "abcdefghijklmnopqrstuvwxyz") rfl hts ⟨ts, rfl⟩) (by rfl))) pa_nil))), ?_⟩
    refine ⟨_, rfl, z, rfl, fun D nD => ?_⟩
    refine lc_gen walk_str (fun _ => true) (fun i => .bl (low (z.cps.toList.getD i 0))) (line10000 hz) nD (fun _ => rfl) (fun _ _ => True.intro) ?_ ?_
    · rintro i x H' H'' hi same ⟨rfl, c, hc, rfl⟩
      refine ⟨rfl, fun R h => h _ (fun _ _ e => e), fun _ H3 s3 R h => ?_⟩
      refine ⟨_, rfl, c, _, rfl, rfl, ?_⟩
      rw [low_mem]
      have e : z.cps.toList.getD i 0 = c := by
        rw [List.getD_eq_getElem?_getD, Array.getElem?_toList, hc] <;> rfl
      rw [e] at h
      exact h _ (fun _ _ e => e)
    · intro H' same at'
      rw [filter_true] at at'
      refine ⟨D, (List.range z.cps.size).map fun i => low (z.cps.toList.getD i 0), rfl, SqL.of (by rw [List.map_map]; exact at'), ?_⟩
      have e := all_range_get z.cps.toList low
      rw [Array.length_toList] at e
      rw [e]
      exact q _ same
end
end LQ
set_option Elab.async false
set_option linter.all false
set_option maxRecDepth 100000
set_option maxHeartbeats 4000000
namespace LQ
open PySem L2 CG CGX
open PySem.W (kitOne Frag)
/-- a def where it stands -/
structure Kn (K : Frag) (mg : Str → Option Value) (n : Str) (st : Stmt) (f : Addr) (fd : FuncData) (ps : List Str) : Prop where
  F : Fun K n n st f fd
  g : mg n = some (.ref f)
  b : Binds K fd ps []
theorem len_cps (z : Str) : z.length = z.cps.toList.length := by simp [Str.length]
theorem Same.rfl' (H : Hp) : Same H H := fun _ _ e => e
theorem str_ext {x y : Str} : x = y ↔ x.cps.toList = y.cps.toList := by
  constructor
  · rintro rfl; rfl
  · intro h
    cases x; cases y
    simp only [Array.toList_inj] at h
    rw [h]
section
variable {P : Program} {w : World} {K : Frag} {mg : Str → Option Value} {base : Heap}
theorem isi_str {H : Hp} {x : V} {o : Option Str} (s : Sx K H x o) : ∃ t, TyX K H x t ∧ kitOne K t (.type "str") = some o.isSome := by
  cases o with
  | none => exact s
  | some z =>
    obtain ⟨rfl, _⟩ := s
    exact ⟨_, .base (.str z), rfl⟩
theorem Sx.mono {H H' : Hp} (s : Same H H') {x : V} {o : Option Str} (h : Sx K H x o) : Sx K H' x o := by
  cases o with
  | some z => exact h
  | none =>
    obtain ⟨t, ty, k⟩ := h
    refine ⟨t, ?_, k⟩
    cases ty with
    | base b =>
      cases b with
      | non => exact .base .non
      | bl y => exact .base (.bl y)
      | int y => exact .base (.int y)
      | str y => exact .base (.str y)
      | flt y => exact .base (.flt y)
      | lst e => exact .base (.lst (s _ _ e))
      | frz e => exact .base (.frz (s _ _ e))
      | tup e => exact .base (.tup (s _ _ e))
      | dK e => exact .base (.dK (s _ _ e))
      | dT e => exact .base (.dT (s _ _ e))
      | ins e a b c d f => exact .base (.ins (s _ _ e) a b c d f)
    | byt b => exact .byt b
    | set e => exact .set (s _ _ e)
    | kList e c => exact .kList e c
    | kTuple e c => exact .kTuple e c
    | kDict e c => exact .kDict e c
    | fTuple e => exact .fTuple (s _ _ e)
    | fDict e => exact .fDict (s _ _ e)
theorem scW : FnScope ["value"] ["value"] (defScope sWord) := ⟨rfl, rfl, rfl, by decide +kernel, rfl, by decide +kernel, by decide +kernel⟩
theorem ok_word {f fS : Addr} {fd dS : FuncData} (F : Fun K "is_word" "is_word" sWord f fd) (T : Sy mg) (S : Kn K mg "has_small_letters" sSmall fS dS ["text"]) : FnOk P w K mg base CX0 2 f fd ["value"] (spO K isWord) := by
  have GS : FnOk P w K mg base CX0 1 fS dS ["text"] spSmallL := ok_small S.F T
  refine F.ok scW (fun vs H Q E h => ?_) (fun cdv A outer s H vs Q E hr h => ?_)
  · obtain ⟨x, o, rfl, _⟩ := h
    rfl
  · obtain ⟨x, o, rfl, hx, q⟩ := h
    obtain ⟨tm, htm⟩ := T.mxl
    refine ⟨_, pss_one (ps_ret (pe_and (pe_callB call_isi (by rfl) T.isi PyProof.Rows.boot_isinstance (pa_cons (pv 0) (pa_cons (pe_bltn (v := .ty "str") (by rfl) T.str PyProof.Rows.boot_str rfl) pa_nil)))
      (pe_and (pe_chain op_le op_le pe_int (pe_callB call_len_str (by rfl) T.len PySem.boot_len (pa_cons (pv 0) pa_nil)) (pe_glob (v := .int 8) rfl htm ⟨tm, rfl⟩))
      (pe_one (pe_call GS hr rfl S.g S.F.kp S.b .nil pass0 (pa_cons (pv 0) pa_nil)))))), ?_⟩
    obtain ⟨t, ty, kt⟩ := isi_str hx
    refine ⟨_, rfl, x, _, t, _, _, rfl, .ty _, ty, kt, _, rfl, ?_⟩
    cases o with
    | none => exact q H (Same.rfl' H)
    | some z =>
      obtain ⟨rfl, hz⟩ := hx
      have e0 : z.length = z.cps.toList.length := len_cps z
      refine ⟨_, rfl, z, rfl, Nat.le_of_lt (line10000 hz), 1, _, rfl, rfl, _, rfl, ite2 (fun h1 => ?_) (fun h1 => ?_)⟩
      · have g1 := of_decide_eq_true h1
        refine ⟨_, _, rfl, rfl, _, rfl, ite2 (fun h2 => ?_) (fun h2 => ?_)⟩
        · have g2 := of_decide_eq_true h2
          refine ⟨_, rfl, z, rfl, hz, fun H' s' => ?_⟩
          have e : lO isWord (some z) = smallL z.cps.toList := by
            show (decide (1 ≤ z.cps.toList.length ∧ z.cps.toList.length ≤ 8) && smallL z.cps.toList) = smallL z.cps.toList
            rw [decide_eq_true (by omega), Bool.true_and]
          rw [e] at q
          exact q H' s'
        · have g2 := mt decide_eq_true h2
          have e : lO isWord (some z) = false := by
            show (decide (1 ≤ z.cps.toList.length ∧ z.cps.toList.length ≤ 8) && smallL z.cps.toList) = false
            rw [decide_eq_false (by omega), Bool.false_and]
          rw [e] at q
          exact q H (Same.rfl' H)
      · have g1 := mt decide_eq_true h1
        have e : lO isWord (some z) = false := by
          show (decide (1 ≤ z.cps.toList.length ∧ z.cps.toList.length ≤ 8) && smallL z.cps.toList) = false
          rw [decide_eq_false (by omega), Bool.false_and]
        rw [e] at q
        exact ⟨_, rfl, q H (Same.rfl' H)⟩
theorem scT : FnScope ["value"] ["value"] (defScope sTerm) := ⟨rfl, rfl, rfl, by decide +kernel, rfl, by decide +kernel, by decide +kernel⟩
theorem ok_term {f fW : Addr} {fd dW : FuncData} (F : Fun K "is_terminal" "is_terminal" sTerm f fd) (T : Sy mg) (W : Kn K mg "is_word" sWord fW dW ["value"]) (GW : FnOk P w K mg base CX0 2 fW dW ["value"] (spO K isWord)) :
    FnOk P w K mg base CX0 3 f fd ["value"] (spO K isTerm) := by
  refine F.ok scT (fun vs H Q E h => ?_) (fun cdv A outer s H vs Q E hr h => ?_)
  · obtain ⟨x, o, rfl, _⟩ := h
    rfl
  · obtain ⟨x, o, rfl, hx, q⟩ := h
    obtain ⟨tm, htm⟩ := T.sgn
    refine ⟨_, pss_cons (ps_if (pt_val (pe_call GW hr rfl W.g W.F.kp W.b .nil pass0 (pa_cons (pv 0) pa_nil))) (pss_one (ps_ret pe_bl)) pss_nil)
      (pss_one (ps_ret (pe_and (pe_callB call_isi (by rfl) T.isi PyProof.Rows.boot_isinstance (pa_cons (pv 0) (pa_cons (pe_bltn (v := .ty "str") (by rfl) T.str PyProof.Rows.boot_str rfl) pa_nil)))
      (pe_and (pe_cmpR op_eq (pe_callB call_len_str (by rfl) T.len PySem.boot_len (pa_cons (pv 0) pa_nil)) pe_int (nomark _))
      (pe_one (pe_cmpR op_in_sign (pv 0) (pe_glob (v := .str "!&()*+,-./:;<=>?[]^|") rfl htm ⟨tm, rfl⟩) (by rfl))))))), ?_⟩
    refine ⟨_, rfl, x, o, rfl, hx, fun H1 s1 => ⟨_, rfl, ite2 (fun h1 => ?_) (fun h1 => ?_)⟩⟩
    · have e : lO isTerm o = true := by
        cases o with
        | none => cases h1
        | some z => 
          show (isWord z.cps.toList || _) = true
          rw [show isWord z.cps.toList = true from h1, Bool.true_or]
      rw [e] at q
      exact q H1 s1
    · obtain ⟨t, ty, kt⟩ := isi_str (hx.mono s1)
      refine ⟨_, rfl, x, _, t, _, _, rfl, .ty _, ty, kt, _, rfl, ?_⟩
      cases o with
      | none => exact q H1 s1
      | some z =>
        obtain ⟨rfl, hz⟩ := hx
        have e0 : z.length = z.cps.toList.length := len_cps z
        have w0 : isWord z.cps.toList = false := Bool.eq_false_iff.mpr h1
        refine ⟨_, rfl, z, rfl, Nat.le_of_lt (line10000 hz), rfl, _, rfl, ite2 (fun h2 => ?_) (fun h2 => ?_)⟩
        · have g2 : (V.int (z.length : Int)) = V.int 1 := of_decide_eq_true h2
          have g3 : z.cps.toList.length = 1 := by
            injection g2 with g2
            omega
          obtain ⟨c, hc⟩ := List.length_eq_one_iff.mp g3
          have ez : z = ⟨#[c]⟩ := str_ext.mpr hc
          refine ⟨_, rfl, c, _, by rw [ez], rfl, ?_⟩
          rw [sign_mem]
          have e : lO isTerm (some z) = decide (c ∈ signs) := by
            show (isWord z.cps.toList || _) = _
            rw [w0, Bool.false_or, hc]
          rw [e] at q
          exact q H1 s1
        · have g2 := mt decide_eq_true h2
          have e : lO isTerm (some z) = false := by
            show (isWord z.cps.toList || _) = _
            rw [w0, Bool.false_or]
            split
            · rename_i c hc
              rw [hc] at e0
              exact absurd (by rw [e0]; rfl) g2
            · rfl
          rw [e] at q
          exact q H1 s1
end
end LQ
set_option Elab.async false
set_option linter.all false
set_option maxRecDepth 100000
set_option maxHeartbeats 4000000
namespace LQ
open PySem L2 CG CGX
open PySem.W (kitOne Frag)
section
variable {P : Program} {w : World} {K : Frag} {mg : Str → Option Value} {base : Heap}
theorem scN : FnScope ["value"] ["value"] (defScope sNont) := ⟨rfl, rfl, rfl, by decide +kernel, rfl, by decide +kernel, by decide +kernel⟩
theorem ok_nont {f fS : Addr} {fd dS : FuncData} (F : Fun K "is_nonterminal" "is_nonterminal" sNont f fd) (T : Sy mg) (S : Kn K mg "has_small_letters" sSmall fS dS ["text"]) : FnOk P w K mg base CX0 2 f fd ["value"] (spO K isNont) := by
  have GS : FnOk P w K mg base CX0 1 fS dS ["text"] spSmallL := ok_small S.F T
  refine F.ok scN (fun vs H Q E h => ?_) (fun cdv A outer s H vs Q E hr h => ?_)
  · obtain ⟨x, o, rfl, _⟩ := h
    rfl
  · obtain ⟨x, o, rfl, hx, q⟩ := h
    obtain ⟨tm, htm⟩ := T.msb
    obtain ⟨tl, htl⟩ := T.lrg
    refine ⟨_, pss_cons (ps_if (PW.pt (pw_or (pt_not (pt_val (pe_callB call_isi (by rfl) T.isi PyProof.Rows.boot_isinstance (pa_cons (pv 0) (pa_cons (pe_bltn (v := .ty "str") (by rfl) T.str PyProof.Rows.boot_str rfl) pa_nil)))))
        (pw_or1 (pt_not (pt_chain op_le op_le pe_int (pe_callB call_len_str (by rfl) T.len PySem.boot_len (pa_cons (pv 0) pa_nil)) (pe_op op_add pe_int (pe_glob (v := .int 5) rfl htm ⟨tm, rfl⟩)))))))
        (pss_one (ps_ret pe_bl)) pss_nil)
      (pss_one (ps_ret (pe_and (pe_cmpR op_in_sign (pe_ix ix_str (pv 0) pe_int (fun _ _ => rfl)) (pe_glob (v := .str "ABCDEFGHIJKLMNOPQRSTUVWXYZ") rfl htl ⟨tl, rfl⟩) (by rfl))
        (pe_one (pe_call GS hr rfl S.g S.F.kp S.b .nil pass0 (pa_cons (pe_slice sl_str (pv 0) (po_some pe_int) po_none) pa_nil)))))), ?_⟩
    obtain ⟨t, ty, kt⟩ := isi_str hx
    refine ⟨_, rfl, x, _, t, _, _, rfl, .ty _, ty, kt, _, rfl, ?_⟩
    cases o with
    | none => exact q H (Same.rfl' H)
    | some z =>
      obtain ⟨rfl, hz⟩ := hx
      have e0 : z.length = z.cps.toList.length := len_cps z
      have bad : (h : ¬ (1 ≤ z.length ∧ z.length ≤ 6)) → lO isNont (some z) = false := fun h => by
        show isNont z.cps.toList = false
        cases hc : z.cps.toList with
        | nil => rfl
        | cons c r =>
          rw [hc, List.length_cons] at e0
          show (decide (r.length ≤ 5) && _ && _) = false
          rw [decide_eq_false (by omega), Bool.false_and, Bool.false_and]
      refine ⟨_, rfl, z, rfl, Nat.le_of_lt (line10000 hz), 1, _, rfl, rfl, _, rfl, ite2 (fun h1 => ?_) (fun h1 => ?_)⟩
      · have g1 := of_decide_eq_true h1
        refine ⟨1, 5, rfl, rfl, _, _, rfl, rfl, _, rfl, ite2 (fun h2 => ?_) (fun h2 => ?_)⟩
        · have g2 := mt (decide_eq_true (p := (z.length : Int) ≤ 1 + 5)) (by rw [Bool.not_eq_true'] at h2; rw [h2]; decide)
          rw [bad (by omega)] at q
          exact q H (Same.rfl' H)
        · have g2 : (z.length : Int) ≤ 1 + 5 := by
            refine of_decide_eq_true (Bool.not_eq_false _ |>.mp fun hh => h2 ?_)
            rw [hh]; rfl
          cases hc : z.cps.toList with
          | nil => rw [hc, List.length_nil] at e0; omega
          | cons c r =>
            have e1 := e0
            rw [hc, List.length_cons] at e1
            refine ⟨_, rfl, z, 0, c, rfl, rfl, Nat.le_of_lt (line10000 hz), by rw [hc]; show atI (c :: r) ((0 : Nat) : Int) = some c; exact atI_nat rfl, c, _, rfl, rfl, ?_⟩
            rw [big_mem]
            have ee : lO isNont (some z) = (decide (65 ≤ c ∧ c ≤ 90) && smallL r) := by
              show isNont z.cps.toList = _
              rw [hc]
              show (decide (r.length ≤ 5) && _ && _) = _
              rw [decide_eq_true (show r.length ≤ 5 by omega), Bool.true_and]
            refine ⟨_, rfl, ite2 (fun h3 => ?_) (fun h3 => ?_)⟩
            · rw [ee, h3, Bool.true_and] at q
              have es : (cutS z (some 1) none).cps.toList = r := by
                show ((z.cps.toList.drop (min 1 z.length)).take (z.length - min 1 z.length)).toArray.toList = r
                rw [List.toList_toArray, hc, show min 1 z.length = 1 by omega, List.drop_one, List.tail_cons, e1]
                exact List.take_of_length_le (by omega)
              refine ⟨_, rfl, 1, rfl, z, rfl, Nat.le_of_lt (line10000 hz), cutS z (some 1) none, rfl, ?_, fun H' s' => ?_⟩
              · rw [len_cps, es]
                omega
              · rw [es]
                exact q H' s'
            · rw [ee, Bool.eq_false_iff.mpr h3, Bool.false_and] at q
              exact q H (Same.rfl' H)
      · have g1 := mt decide_eq_true h1
        rw [bad (by omega)] at q
        exact ⟨_, rfl, q H (Same.rfl' H)⟩
theorem scNm : FnScope ["value"] ["value"] (defScope sName) := ⟨rfl, rfl, rfl, by decide +kernel, rfl, by decide +kernel, by decide +kernel⟩
/-- OTHER_ACTIONS, a tuple of the written part -/
def OthAt (K : Frag) (mg : Str → Option Value) : Prop := ∃ a, mg "OTHER_ACTIONS" = some (.ref a) ∧ ∀ H, SqT K H a [.str "shift", .str "accept"]
theorem ok_name {f fW : Addr} {fd dW : FuncData} (F : Fun K "is_name" "is_name" sName f fd) (T : Sy mg) (O : OthAt K mg) (W : Kn K mg "is_word" sWord fW dW ["value"]) (GW : FnOk P w K mg base CX0 2 fW dW ["value"] (spO K isWord)) :
    FnOk P w K mg base CX0 3 f fd ["value"] (spO K isName) := by
  refine F.ok scNm (fun vs H Q E h => ?_) (fun cdv A outer s H vs Q E hr h => ?_)
  · obtain ⟨x, o, rfl, _⟩ := h
    rfl
  · obtain ⟨x, o, rfl, hx, q⟩ := h
    obtain ⟨ao, hao, hoo⟩ := O
    refine ⟨_, pss_one (ps_ret (pe_and (pe_call GW hr rfl W.g W.F.kp W.b .nil pass0 (pa_cons (pv 0) pa_nil))
      (pe_one (pe_cmpR op_notIn_seq (pv 0) (pe_glob (v := .ref ao) rfl hao rfl) (by rfl))))), ?_⟩
    refine ⟨_, rfl, x, o, rfl, hx, fun H1 s1 => ⟨_, rfl, ite2 (fun h1 => ?_) (fun h1 => ?_)⟩⟩
    · cases o with
      | none => cases h1
      | some z =>
        obtain ⟨rfl, hz⟩ := hx
        refine ⟨_, rfl, ao, _, rfl, .inr (hoo _), rfl, rfl, ?_⟩
        have e : lO isName (some z) = !inV (.str z) [.str "shift", .str "accept"] := by
          show (isWord z.cps.toList && _ && _) = _
          rw [show isWord z.cps.toList = true from h1, Bool.true_and]
          show _ = !((Str.ofString "shift" == z) || ((Str.ofString "accept" == z) || false))
          rw [Bool.or_false, Bool.not_or]
          have e1 : (Str.ofString "shift" == z) = decide (z.cps.toList = [115, 104, 105, 102, 116]) := by
            rw [Bool.eq_iff_iff, beq_iff_eq, decide_eq_true_eq, str_ext, show (Str.ofString "shift").cps.toList = [115, 104, 105, 102, 116] by decide +kernel]
            exact eq_comm
          have e2 : (Str.ofString "accept" == z) = decide (z.cps.toList = [97, 99, 99, 101, 112, 116]) := by
            rw [Bool.eq_iff_iff, beq_iff_eq, decide_eq_true_eq, str_ext, show (Str.ofString "accept").cps.toList = [97, 99, 99, 101, 112, 116] by decide +kernel]
            exact eq_comm
          rw [e1, e2]
        rw [e] at q
        exact q H1 s1
    · have e : lO isName o = false := by
        cases o with
        | none => rfl
        | some z =>
          show (isWord z.cps.toList && _ && _) = false
          rw [show isWord z.cps.toList = false from Bool.eq_false_iff.mpr h1, Bool.false_and, Bool.false_and]
      rw [e] at q
      exact q H1 s1
end
end LQ
set_option Elab.async false
set_option linter.all false
set_option maxRecDepth 100000
set_option maxHeartbeats 4000000
namespace LQ
open PySem L2 CG CGX
open PySem.W (kitOne Frag dataLt listLt Tup)
/-! ### rows of values -/
def NotTup (K : Frag) (H : Hp) (x : V) : Prop := ∃ t, TyX K H x t ∧ kitOne K t (.type "tuple") = some false
def Tx (K : Frag) (H : Hp) (x : V) : Option (List (Option Str)) → Prop
  | none => NotTup K H x
  | some os => ∃ (a : Addr) (xs : List V), x = .ref a ∧ SqT K H a xs ∧ Paired (Sx K H) xs os ∧ xs.length ≤ 20000
def termsO : Option (List (Option Str)) → Bool
  | none => false
  | some os => decide (os.length ≤ 60) && os.all (lO isTerm)
theorem sqT_same {K : Frag} {H H' : Hp} {a : Addr} {xs : List V} (s : Same H H') (h : SqT K H a xs) : SqT K H' a xs := by
  rcases h with (h | ⟨o, h⟩) | h
  · exact .inl (.inl (s _ _ h))
  · exact .inl (.inr ⟨o, s _ _ h⟩)
  · exact .inr h
theorem tyx_mono {K : Frag} {H H' : Hp} (s : Same H H') {x : V} {t : Value} (ty : TyX K H x t) : TyX K H' x t := by
  cases ty with
  | base b =>
    cases b with
    | non => exact .base .non
    | bl y => exact .base (.bl y)
    | int y => exact .base (.int y)
    | str y => exact .base (.str y)
    | flt y => exact .base (.flt y)
    | lst e => exact .base (.lst (s _ _ e))
    | frz e => exact .base (.frz (s _ _ e))
    | tup e => exact .base (.tup (s _ _ e))
    | dK e => exact .base (.dK (s _ _ e))
    | dT e => exact .base (.dT (s _ _ e))
    | ins e a b c d f => exact .base (.ins (s _ _ e) a b c d f)
  | byt b => exact .byt b
  | set e => exact .set (s _ _ e)
  | kList e c => exact .kList e c
  | kTuple e c => exact .kTuple e c
  | kDict e c => exact .kDict e c
  | fTuple e => exact .fTuple (s _ _ e)
  | fDict e => exact .fDict (s _ _ e)
theorem Tx.mono {K : Frag} {H H' : Hp} (s : Same H H') {x : V} {o : Option (List (Option Str))} (h : Tx K H x o) : Tx K H' x o := by
  cases o with
  | none =>
    obtain ⟨t, ty, k⟩ := h
    exact ⟨t, tyx_mono s ty, k⟩
  | some os =>
    obtain ⟨a, xs, e, q, p, l⟩ := h
    exact ⟨a, xs, e, sqT_same s q, p.mono fun _ _ z => z.mono s, l⟩
theorem tyx_tup {K : Frag} {H : Hp} {a : Addr} {xs : List V} (h : SqT K H a xs) : TyX K H (.ref a) (.type "tuple") := by
  rcases h with (h | ⟨o, h⟩) | ⟨o, its, n, hk, hc, _⟩
  · exact .base (.tup h)
  · exact .fTuple h
  · exact .kTuple hk hc
theorem isi_tup {K : Frag} {H : Hp} {x : V} {o : Option (List (Option Str))} (s : Tx K H x o) : ∃ t, TyX K H x t ∧ kitOne K t (.type "tuple") = some o.isSome := by
  cases o with
  | none => exact s
  | some os =>
    obtain ⟨a, xs, rfl, q, _⟩ := s
    exact ⟨_, tyx_tup q, rfl⟩
theorem paired_at {α β : Type} {R : α → β → Prop} {xs : List α} {ys : List β} (p : Paired R xs ys) : ∀ (i : Nat) (x : α), xs[i]? = some x → ∃ y, ys[i]? = some y ∧ R x y := by
  induction p with
  | nil => intro i x h; cases h
  | cons r t ih =>
    intro i x h
    cases i with
    | zero => cases h; exact ⟨_, rfl, r⟩
    | succ i => exact ih i x h
theorem line20000 {n : Nat} (h : n ≤ 20000) : n < sizeLine := Nat.lt_of_le_of_lt h (by decide)
def spTs (K : Frag) : Sp := fun vs H Q _ => ∃ (x : V) (o : Option (List (Option Str))), vs = [x] ∧ Tx K H x o ∧ ∀ H', Same H H' → Q (.bl (termsO o)) H'
section
variable {P : Program} {w : World} {K : Frag} {mg : Str → Option Value} {base : Heap}
theorem scTs : FnScope ["value", "each"] ["value"] (defScope sTerms) := ⟨rfl, rfl, rfl, by decide +kernel, rfl, by decide +kernel, by decide +kernel⟩
theorem all_range_opt {α : Type} (l : List (Option α)) (p : Option α → Bool) : ((List.range l.length).map fun i => p ((l[i]?).getD none)).all id = l.all p := by
  rw [List.all_map]
  have e : (List.range l.length).map (fun j => l.getD j none) = l := PyProof.Rows.range_getD l none
  conv => rhs; rw [← e]
  rw [List.all_map]
  simp only [List.getD_eq_getElem?_getD]
  rfl
theorem ok_terms {f fT : Addr} {fd dT : FuncData} (F : Fun K "is_terminals" "is_terminals" sTerms f fd) (T : Sy mg) (W : Kn K mg "is_terminal" sTerm fT dT ["value"]) (GT : FnOk P w K mg base CX0 3 fT dT ["value"] (spO K isTerm)) :
    FnOk P w K mg base CX0 4 f fd ["value"] (spTs K) := by
  refine F.ok scTs (fun vs H Q E h => ?_) (fun cdv A outer s H vs Q E hr h => ?_)
  · obtain ⟨x, o, rfl, _⟩ := h
    rfl
  · obtain ⟨x, o, rfl, hx, q⟩ := h
    obtain ⟨tm, htm⟩ := T.mxt
    refine ⟨_, pss_cons (ps_if (PW.pt (pw_or (pt_not (pt_val (pe_callB call_isi (by rfl) T.isi PyProof.Rows.boot_isinstance (pa_cons (pv 0) (pa_cons (pe_bltn (v := .ty "tuple") (by rfl) T.tuple PyProof.Rows.boot_tuple rfl) pa_nil)))))
        (pw_or1 (pt_cmpR op_gt (pe_callB call_len_seq (by rfl) T.len PySem.boot_len (pa_cons (pv 0) pa_nil)) (pe_glob (v := .int 60) rfl htm ⟨tm, rfl⟩) (nomark _)))))
        (pss_one (ps_ret pe_bl)) pss_nil)
      (pss_one (ps_ret (pe_callB (cr_all rfl) (by rfl) T.all PyProof.Rows.boot_all (pa_cons (pe_lc (own := [("each", 1)]) (g := gName 1) (tt := tYes) rfl scTs.nd (pi_tup (pv 0))
      (blkOk_by (N := ["value", "each"]) (sc := defScope sTerms) (by decide +kernel)) (fun _ _ _ _ _ => pg_name (i := 1) scTs.nd rfl (Or.inl rfl)) (fun _ _ _ _ _ => pts_nil)
      (fun _ _ _ _ _ => pe_call GT hr rfl W.g W.F.kp W.b .nil pass0 (pa_cons (pv 1) pa_nil))) pa_nil)))), ?_⟩
    obtain ⟨t, ty, kt⟩ := isi_tup hx
    refine ⟨_, rfl, x, _, t, _, _, rfl, .ty _, ty, kt, _, rfl, ?_⟩
    cases o with
    | none => exact q H (Same.rfl' H)
    | some os =>
      obtain ⟨a, xs, rfl, hq, pr, hl⟩ := hx
      have el := pr.length
      refine ⟨_, rfl, a, xs, rfl, .inr hq, _, _, rfl, rfl, _, rfl, ite2 (fun h1 => ?_) (fun h1 => ?_)⟩
      · have g1 := of_decide_eq_true h1
        have e : termsO (some os) = false := by
          show (decide (os.length ≤ 60) && _) = false
          rw [decide_eq_false (by omega), Bool.false_and]
        rw [e] at q
        exact q H (Same.rfl' H)
      · have g1 := mt decide_eq_true h1
        have e : termsO (some os) = os.all (lO isTerm) := by
          show (decide (os.length ≤ 60) && _) = _
          rw [decide_eq_true (by omega), Bool.true_and]
        rw [e] at q
        refine ⟨_, rfl, a, rfl, ⟨xs, hq⟩, fun D nD => ?_⟩
        refine lc_gen (walk_tup (xs := xs)) (fun _ => true) (fun i => .bl (lO isTerm ((os[i]?).getD none))) (line20000 hl) nD (fun _ => rfl) (fun H' s' => sqT_same s' hq) ?_ ?_
        · rintro i x H' H'' hi same ⟨rfl, hxi⟩
          refine ⟨rfl, fun R h => h _ (fun _ _ e => e), fun _ H3 s3 R h => ?_⟩
          obtain ⟨o, ho, sx⟩ := paired_at pr i x hxi
          refine ⟨_, rfl, x, o, rfl, (sx.mono same).mono s3, fun H4 s4 => ?_⟩
          rw [ho] at h
          exact h H4 s4
        · intro H' same at'
          rw [filter_true] at at'
          refine ⟨D, (List.range os.length).map fun i => lO isTerm ((os[i]?).getD none), rfl, SqL.of (by rw [List.map_map, ← el]; exact at'), ?_⟩
          rw [all_range_opt]
          exact q _ same
end
end LQ
set_option Elab.async false
set_option linter.all false
set_option maxRecDepth 100000
set_option maxHeartbeats 4000000
namespace LQ
open PySem L2 CG CGX
open PySem.W (kitOne Frag dataLt listLt Tup excIn keepIn subIn typeIn findIn DatumOrd Datum)
/-! ### order of data -/
def rLtU (K : Frag) : R2 := fun x y H Q => ∃ d e, Dp K H x d ∧ Dp K H y e ∧ PySem.W.alike d e = true ∧ d ≠ .none ∧ d.depth ≤ 60 ∧ Q (.bl (dataLt d e)) H
theorem op_ltU {X : Cx} (hu : X.A.units + 64 < cLine) : OpR X (compareOp .Lt) (rLtU X.K) := by
  intro pins s σ H x y v u Q I rx ry h
  obtain ⟨d, e, hd, he, al, nn, dp, q⟩ := h
  obtain ⟨as, r1⟩ := Dp.reads I d x v hd rx
  obtain ⟨bs, r2⟩ := Dp.reads I e y u he ry
  exact PySem.W.lt_data r1 r2 al nn (by omega) ⟨.bl _, H, I, rfl, q⟩
/-- the text's order: fewer terminals, or as many and first in Python's order -/
def befL (zs ws : List Str) : Bool := DatumOrd.lt (((zs.length : Nat) : Int), Tup.mk zs) (((ws.length : Nat) : Int), Tup.mk ws)
theorem dp_strs {K : Frag} {H : Hp} : ∀ zs : List Str, DpAll K H (zs.map V.str) (zs.map Datum.toD)
  | [] => .nil
  | z :: zs => .cons (.str z) (dp_strs zs)
theorem dp_key {K : Frag} {H : Hp} {p a : Addr} {zs : List Str} (hp : H p = some (.tup [.int ((zs.length : Nat) : Int), .ref a])) (ha : SqT K H a (zs.map V.str)) : Dp K H (.ref p) (Datum.toD (((zs.length : Nat) : Int), Tup.mk zs)) :=
  .tup (SqT.of hp) (.cons (.int _) (.cons (.tup ha (dp_strs zs)) .nil))
/-! ### rows that are texts -/
theorem row_of {K : Frag} {H : Hp} : ∀ {xs : List V} {os : List (Option Str)}, Paired (Sx K H) xs os → os.all (lO isTerm) = true → ∃ zs : List Str, os = zs.map some ∧ xs = zs.map V.str ∧ ∀ z ∈ zs, isTerm z.cps.toList = true
  | _, _, .nil, _ => ⟨[], rfl, rfl, fun _ h => nomatch h⟩
  | _, _, .cons (b := o) h t, e => by
    rw [List.all_cons, Bool.and_eq_true] at e
    obtain ⟨zs, e1, e2, e3⟩ := row_of t e.2
    cases o with
    | none => exact absurd e.1 (by decide)
    | some z =>
      obtain ⟨rfl, _⟩ := h
      refine ⟨z :: zs, by rw [e1]; rfl, by rw [e2]; rfl, fun y hy => ?_⟩
      rcases List.mem_cons.mp hy with rfl | hy
      · exact e.1
      · exact e3 y hy
theorem term_len {l : List Nat} (h : isTerm l = true) : 1 ≤ l.length ∧ l.length ≤ 8 := by
  unfold isTerm at h
  rw [Bool.or_eq_true] at h
  rcases h with h | h
  · unfold isWord at h
    rw [Bool.and_eq_true, decide_eq_true_eq] at h
    exact h.1
  · match l, h with
    | [c], _ => exact ⟨Nat.le_refl _, Nat.succ_le_succ (Nat.zero_le _)⟩
theorem sum_len : ∀ {zs : List Str}, (∀ z ∈ zs, isTerm z.cps.toList = true) → (zs.map (·.length)).sum ≤ 8 * zs.length
  | [], _ => Nat.le_refl _
  | z :: zs, h => by
    have a := sum_len fun y hy => h y (List.mem_cons_of_mem _ hy)
    have b := term_len (h z List.mem_cons_self)
    rw [← len_cps] at b
    simp only [List.map_cons, List.sum_cons, List.length_cons]
    omega
/-! ### errors -/
def clsBody : Stmt → List Stmt
  | .ClassDef _ _ _ b _ _ _ _ _ _ _ => b
  | _ => []
abbrev sInit : Stmt := (clsBody (top 3)).getD 0 (.Pass ⟨0, 0, 0, 0⟩)
structure Er (K : Frag) (mg : Str → Option Value) (cX cP fI : Addr) (dI : FuncData) : Prop where
  gX : mg "InvalidText" = some (.ref cX)
  xX : excIn K cX [.type "ValueError", .type "Exception", .type "BaseException", .type "object"] "ValueError.__new__" = true
  kX : keepIn K (.ref cX) = true
  bX : subIn K (.ref cX) (.type "BaseException") = some true
  tX : typeIn K (.ref cX) = some (.type "type")
  gP : mg "ParseError" = some (.ref cP)
  oP : OexC K cP
  iP : findIn K (.ref cP) "__init__" = some (some (.ref fI))
  jP : typeIn K (.ref fI) = some (.type "function")
  lP : findIn K (.ref cP) "line" = some none
  FI : Fun K "__init__" "ParseError.__init__" sInit fI dI
  bI : Binds K dI ["self", "line"] []
def spInit (cP : Addr) : Sp := fun vs H Q _ => ∃ (a : Addr) (v : V), vs = [.ref a, v] ∧ H a = some (exo a cP none) ∧ ∀ dx, H dx = none → dx ≠ a → Q .non (upd (upd H dx (exd dx [("line", v)])) a (exo a cP (some dx)))
def spOrder (K : Frag) : Sp := fun vs H Q _ => ∃ (a : Addr) (zs : List Str), vs = [.ref a] ∧ SqT K H a (zs.map V.str) ∧ ∀ p H', Same H H' → H' p = some (.tup [.int ((zs.length : Nat) : Int), .ref a]) → Q (.ref p) H'
def spBefore (K : Frag) (cX : Addr) : Sp := fun vs H Q E => ∃ (x y : V) (t u : Option (List (Option Str))), vs = [x, y] ∧ Tx K H x t ∧ Tx K H y u ∧
  (∀ zs ws, t = some (zs.map some) → u = some (ws.map some) → (termsO t && termsO u) = true → ∀ H', Same H H' → Q (.bl (befL zs ws)) H') ∧ ((termsO t && termsO u) = false → ∀ H', Same H H' → E (.ref cX) none H')
def spWrite (K : Frag) (cX : Addr) : Sp := fun vs H Q E => ∃ (x : V) (t : Option (List (Option Str))), vs = [x] ∧ Tx K H x t ∧
  (∀ zs, t = some (zs.map some) → termsO t = true → ∀ H', Same H H' → Q (.str (Txt.join " " zs)) H') ∧ (termsO t = false → ∀ H', Same H H' → E (.ref cX) none H')
section
variable {P : Program} {w : World} {K : Frag} {mg : Str → Option Value} {base : Heap} {cX cP fI : Addr} {dI : FuncData}
theorem scI : FnScope ["self", "line"] ["self", "line"] (defScope sInit) := ⟨rfl, rfl, rfl, by decide +kernel, rfl, by decide +kernel, by decide +kernel⟩
theorem ok_init (R : Er K mg cX cP fI dI) : FnOk P w K mg base CX0 1 fI dI ["self", "line"] (spInit cP) := by
  refine R.FI.ok scI (fun vs H Q E h => ?_) (fun cdv A outer s H vs Q E hr h => ?_)
  · obtain ⟨a, v, rfl, _⟩ := h
    rfl
  · obtain ⟨a, v, rfl, ha, q⟩ := h
    refine ⟨_, pss_one (ps_ost (pv 0) (pv 1)), ?_⟩
    exact ⟨_, rfl, _, rfl, a, cP, rfl, R.oP, R.lP, .inl ⟨ha, fun dx n ne => q dx n ne⟩⟩
theorem scO : FnScope ["text"] ["text"] (defScope sOrder) := ⟨rfl, rfl, rfl, by decide +kernel, rfl, by decide +kernel, by decide +kernel⟩
theorem ok_order {f : Addr} {fd : FuncData} (F : Fun K "text_order" "text_order" sOrder f fd) (T : Sy mg) : FnOk P w K mg base CX0 1 f fd ["text"] (spOrder K) := by
  refine F.ok scO (fun vs H Q E h => ?_) (fun cdv A outer s H vs Q E hr h => ?_)
  · obtain ⟨a, zs, rfl, _⟩ := h
    rfl
  · obtain ⟨a, zs, rfl, ha, q⟩ := h
    refine ⟨_, pss_one (ps_ret (pe_tup (pa_cons (pe_callB call_len_seq (by rfl) T.len PySem.boot_len (pa_cons (pv 0) pa_nil)) (pa_cons (pv 0) pa_nil)))), ?_⟩
    refine ⟨_, rfl, a, _, rfl, .inr ha, _, rfl, (by show 2 ≤ sizeLine; decide), fun p hp => ?_⟩
    rw [List.length_map]
    exact q p _ (same_upd hp) upd_same
end
end LQ
set_option Elab.async false
set_option linter.all false
set_option maxRecDepth 100000
set_option maxHeartbeats 4000000
namespace LQ
open PySem L2 CG CGX
open PySem.W (kitOne Frag dataLt listLt Tup excIn keepIn subIn typeIn findIn DatumOrd Datum)
theorem key_ok (zs ws : List Str) : PySem.W.alike (Datum.toD (((zs.length : Nat) : Int), Tup.mk zs)) (Datum.toD (((ws.length : Nat) : Int), Tup.mk ws)) = true ∧ Datum.toD (((zs.length : Nat) : Int), Tup.mk zs) ≠ .none ∧
    (Datum.toD (((zs.length : Nat) : Int), Tup.mk zs)).depth ≤ 60 ∧ dataLt (Datum.toD (((zs.length : Nat) : Int), Tup.mk zs)) (Datum.toD (((ws.length : Nat) : Int), Tup.mk ws)) = befL zs ws := by
  refine ⟨DatumOrd.alike _ _, DatumOrd.notNone _, ?_, DatumOrd.lt_eq _ _⟩
  refine Nat.le_trans (Datum.depth_le _) ?_
  decide
section
variable {P : Program} {w : World} {K : Frag} {mg : Str → Option Value} {base : Heap} {cX cP fI : Addr} {dI : FuncData}
theorem scB : FnScope ["one", "other", "text"] ["one", "other"] (defScope sBefore) := ⟨rfl, rfl, rfl, by decide +kernel, rfl, by decide +kernel, by decide +kernel⟩
theorem ok_before {f fT fO : Addr} {fd dT dO : FuncData} (F : Fun K "is_before" "is_before" sBefore f fd) (T : Sy mg) (R : Er K mg cX cP fI dI) (Ts : Kn K mg "is_terminals" sTerms fT dT ["value"]) (GT : FnOk P w K mg base CX0 4 fT dT ["value"] (spTs K))
    (O : Kn K mg "text_order" sOrder fO dO ["text"]) : FnOk P w K mg base (L2.CX P w) 5 f fd ["one", "other"] (spBefore K cX) := by
  have GO : FnOk P w K mg base CX0 1 fO dO ["text"] (spOrder K) := ok_order O.F T
  refine F.okX scB (fun vs H Q E h => ?_) (fun cdv A outer s H vs Q E hr h => ?_)
  · obtain ⟨x, y, t, u, rfl, _⟩ := h
    rfl
  · obtain ⟨x, y, t, u, rfl, hx, hy, q, e⟩ := h
    have hr1 : Room 1 _ := hr.mono (by decide)
    refine ⟨_, pss_cons (ps_for (passes_of rfl) rfl (pi_tup (pe_tup (pa_cons (pv 0) (pa_cons (pv 1) pa_nil)))) (pg_name (i := 2) scB.nd rfl (Or.inl rfl))
        (pss_one (ps_if (pt_not (pt_val (pe_call GT hr rfl Ts.g Ts.F.kp Ts.b .nil pass0 (pa_cons (pv 2) pa_nil))))
          (pss_one (ps_raise rfl (takes_of rfl rfl rfl rfl) (pmk_own PySem.F.excBase_ValueError R.xX R.gX R.kX (raises_own R.bX R.tX) rfl))) pss_nil)))
      (pss_one (ps_ret (pe_cmpR (op_ltU hr.units) (pe_call GO hr1 rfl O.g O.F.kp O.b .nil pass0 (pa_cons (pv 0) pa_nil)) (pe_call GO hr1 rfl O.g O.F.kp O.b .nil pass0 (pa_cons (pv 1) pa_nil)) (nomark _)))), ?_⟩
    refine ⟨_, rfl, _, rfl, (by show 2 ≤ sizeLine; decide), fun p hp => ⟨p, rfl, ⟨_, SqT.of upd_same⟩, ?_⟩⟩
    refine for_tup (xs := [x, y]) (fun i σ H' => ∃ v, σ = [some x, some y, v] ∧ Same H H' ∧ H' p = some (.tup [x, y]) ∧ (1 ≤ i → termsO t = true) ∧ (2 ≤ i → termsO u = true))
      ⟨none, rfl, same_upd hp, upd_same, fun z => absurd z (by decide), fun z => absurd z (by decide)⟩ (fun i σ H' _ z => by obtain ⟨v, _, _, a, _⟩ := z; exact SqT.of a) ?_ ?_
    · rintro i z σ H' hz ⟨v, rfl, same, at', h1, h2⟩
      match i, hz with
      | 0, hz =>
        cases hz
        refine ⟨_, rfl, _, t, rfl, hx.mono same, fun H2 s2 => ⟨_, rfl, ?_⟩⟩
        cases ht : termsO t with
        | true => exact ⟨_, rfl, same.trans s2, s2 _ _ at', fun _ => rfl, fun z => absurd z (by decide)⟩
        | false => exact e (by rw [ht]; rfl) H2 (same.trans s2)
      | 1, hz =>
        cases hz
        refine ⟨_, rfl, _, u, rfl, hy.mono same, fun H2 s2 => ⟨_, rfl, ?_⟩⟩
        cases ht : termsO u with
        | true => exact ⟨_, rfl, same.trans s2, s2 _ _ at', fun _ => h1 (Nat.le_refl _), fun _ => rfl⟩
        | false => exact e (by rw [ht, Bool.and_false]) H2 (same.trans s2)
      | (n + 2), hz => cases hz
    · rintro σ H' ⟨v, rfl, same, at', h1, h2⟩
      have t1 := h1 (show 1 ≤ 2 by decide)
      have t2 := h2 (show 2 ≤ 2 by decide)
      obtain ⟨os, rfl⟩ : ∃ os, t = some os := by
        cases t with
        | none => exact Bool.noConfusion t1
        | some os => exact ⟨os, rfl⟩
      obtain ⟨os2, rfl⟩ : ∃ os, u = some os := by
        cases u with
        | none => exact Bool.noConfusion t2
        | some os => exact ⟨os, rfl⟩
      obtain ⟨a, xs, rfl, ha, pa, la⟩ := hx
      obtain ⟨b, ys, rfl, hb, pb, lb⟩ := hy
      have g1 : os.all (lO isTerm) = true := (Bool.and_eq_true_iff.mp t1).2
      have g2 : os2.all (lO isTerm) = true := (Bool.and_eq_true_iff.mp t2).2
      obtain ⟨zs, rfl, rfl, _⟩ := row_of pa g1
      obtain ⟨ws, rfl, rfl, _⟩ := row_of pb g2
      have qq := q zs ws rfl rfl (by rw [t1, t2]; rfl)
      obtain ⟨k1, k2, k3, k4⟩ := key_ok zs ws
      refine ⟨_, rfl, a, zs, rfl, sqT_same same ha, fun p1 H1 s1 at1 => ⟨_, rfl, b, ws, rfl, sqT_same (same.trans s1) hb, fun p2 H2 s2 at2 => ?_⟩⟩
      have d1 := dp_key (K := K) (s2 _ _ at1) (sqT_same ((same.trans s1).trans s2) ha)
      have d2 := dp_key (K := K) at2 (sqT_same ((same.trans s1).trans s2) hb)
      refine ⟨_, _, d1, d2, k1, k2, k3, ?_⟩
      rw [k4]
      exact qq H2 ((same.trans s1).trans s2)
end
end LQ
set_option Elab.async false
set_option linter.all false
set_option maxRecDepth 100000
set_option maxHeartbeats 4000000
namespace LQ
open PySem L2 CG CGX
open PySem.W (kitOne Frag dataLt listLt Tup excIn keepIn subIn typeIn findIn DatumOrd Datum)
section
variable {P : Program} {w : World} {K : Frag} {mg : Str → Option Value} {base : Heap} {cX cP fI : Addr} {dI : FuncData}
theorem scWr : FnScope ["text"] ["text"] (defScope sWrite) := ⟨rfl, rfl, rfl, by decide +kernel, rfl, by decide +kernel, by decide +kernel⟩
theorem ok_write {f fT : Addr} {fd dT : FuncData} (F : Fun K "write_terminals" "write_terminals" sWrite f fd) (T : Sy mg) (R : Er K mg cX cP fI dI) (Ts : Kn K mg "is_terminals" sTerms fT dT ["value"]) (GT : FnOk P w K mg base CX0 4 fT dT ["value"] (spTs K)) :
    FnOk P w K mg base (L2.CX P w) 5 f fd ["text"] (spWrite K cX) := by
  refine F.okX scWr (fun vs H Q E h => ?_) (fun cdv A outer s H vs Q E hr h => ?_)
  · obtain ⟨x, t, rfl, _⟩ := h
    rfl
  · obtain ⟨x, t, rfl, hx, q, e⟩ := h
    refine ⟨_, pss_cons (ps_if (pt_not (pt_val (pe_call GT hr rfl Ts.g Ts.F.kp Ts.b .nil pass0 (pa_cons (pv 0) pa_nil))))
          (pss_one (ps_raise rfl (takes_of rfl rfl rfl rfl) (pmk_own PySem.F.excBase_ValueError R.xX R.gX R.kX (raises_own R.bX R.tX) rfl))) pss_nil)
      (pss_one (ps_ret (pe_join pe_str (pv 0)))), ?_⟩
    refine ⟨_, rfl, _, t, rfl, hx, fun H2 s2 => ⟨_, rfl, ?_⟩⟩
    cases ht : termsO t with
    | false => exact e ht H2 s2
    | true =>
      match t, hx, ht, q with
      | some os, hx, ht, q =>
        obtain ⟨a, xs, rfl, ha, pa, la⟩ := hx
        have g : os.length ≤ 60 ∧ os.all (lO isTerm) = true := by
          have := ht
          unfold termsO at this
          rw [Bool.and_eq_true, decide_eq_true_eq] at this
          exact this
        obtain ⟨zs, rfl, rfl, hz⟩ := row_of pa g.2
        refine ⟨⟨_, rfl⟩, _, rfl, _, a, zs, rfl, rfl, .inr (sqT_same s2 ha), ?_, q zs rfl ht H2 s2⟩
        have := sum_len hz
        have l := g.1
        rw [List.length_map] at l
        have : (Str.ofString " ").length = 1 := by decide +kernel
        rw [this]
        omega
end
end LQ
set_option Elab.async false
set_option linter.all false
set_option maxRecDepth 100000
set_option maxHeartbeats 4000000
namespace LQ
open PySem L2 CG CGX
open PySem.W (kitOne Frag)
open TL
/-! ### lines -/
theorem joinL_len (S : List Nat) : ∀ (ps : List (List Nat)), (∀ p ∈ ps, p.length ≤ (joinL S ps).length) ∧ (S.length = 1 → ps.length ≤ (joinL S ps).length + 1)
  | [] => ⟨fun _ h => (nomatch h), fun _ => Nat.zero_le _⟩
  | [p] => ⟨fun q h => by rw [List.mem_singleton.mp h]; exact Nat.le_refl _, fun _ => Nat.le_add_left _ _⟩
  | p :: q :: r => by
    obtain ⟨a, b⟩ := joinL_len S (q :: r)
    have e : (joinL S (p :: q :: r)).length = p.length + (S.length + (joinL S (q :: r)).length) := by
      show (p ++ (S ++ joinL S (q :: r))).length = _
      rw [List.length_append, List.length_append]
    constructor
    · intro y hy
      rw [e]
      rcases List.mem_cons.mp hy with rfl | hy
      · omega
      · have := a y hy
        omega
    · intro h
      have := b h
      rw [e, h]
      rw [List.length_cons] at this ⊢
      omega
theorem split_len (z : Str) : (∀ p ∈ Txt.split z " ", p.length ≤ z.length) ∧ (Txt.split z " ").length ≤ z.length + 1 := by
  have e : Str.join " " (Txt.split z " ") = z := PySem.StrLaws.join_split z " "
  have e2 := congrArg tl e
  rw [tl_join] at e2
  obtain ⟨a, b⟩ := joinL_len (tl (Str.ofString " ")) ((Txt.split z " ").map tl)
  rw [e2] at a b
  constructor
  · intro p hp
    have := a (tl p) (List.mem_map_of_mem hp)
    rw [len_cps, len_cps z]
    exact this
  · have := b (by decide +kernel)
    rw [List.length_map] at this
    rw [len_cps]
    exact this
def wordsOf (z : Str) : List Str := if z = "" then [] else Txt.split z " "
def rdO : Option Str → Option (List Str)
  | none => none
  | some z => if termsO (some ((wordsOf z).map some)) = true then some (wordsOf z) else none
def spRead (K : Frag) (cP : Addr) : Sp := fun vs H Q E => ∃ (x : V) (o : Option Str), vs = [x] ∧ Sx K H x o ∧
  (∀ ws, rdO o = some ws → ∀ H' p, Same H H' → H' p = some (.tup (ws.map V.str)) → Q (.ref p) H') ∧ (rdO o = none → ∀ H' d, Same H H' → H' d = some (.xd [("line", .non)]) → E (.ref cP) (some d) H')
theorem paired_strs {K : Frag} {H : Hp} : ∀ (ws : List Str), (∀ p ∈ ws, p.length ≤ 10000) → Paired (Sx K H) (ws.map V.str) (ws.map some)
  | [], _ => .nil
  | z :: ws, h => .cons ⟨rfl, h z List.mem_cons_self⟩ (paired_strs ws fun p hp => h p (List.mem_cons_of_mem _ hp))
theorem tx_strs {K : Frag} {H : Hp} {p : Addr} {ws : List Str} (h : H p = some (.tup (ws.map V.str))) (h1 : ∀ p ∈ ws, p.length ≤ 10000) (h2 : ws.length ≤ 20000) : Tx K H (.ref p) (some (ws.map some)) :=
  ⟨p, _, rfl, SqT.of h, paired_strs ws h1, by rw [List.length_map]; exact h2⟩
section
variable {P : Program} {w : World} {K : Frag} {mg : Str → Option Value} {base : Heap} {cX cP fI : Addr} {dI : FuncData}
/-- what raise ParseError(None) asks -/
theorem raise_read {E : XK} {H H1 : Hp} (same : Same H H1) (e : ∀ H' d, Same H H' → H' d = some (.xd [("line", .non)]) → E (.ref cP) (some d) H') (a : Addr) (ha : H1 a = none) :
    spInit cP [.ref a, .non] (upd H1 a (exo a cP none)) (fun v H2 => v = .non ∧ ∃ (d : Addr) (fs : List (Str × V)), H2 a = some (exo a cP (some d)) ∧ H2 d = some (exd d fs) ∧ H1 d = none ∧ E (.ref cP) (some d) (upd (L2.del H2 a) d (.xd fs))) (fun _ _ _ => False) := by
  refine ⟨a, .non, rfl, upd_same, fun dx hd hne => ⟨rfl, dx, [("line", .non)], upd_same, ?_, ?_, ?_⟩⟩
  · rw [upd_ne hne]
    exact upd_same
  · rw [upd_ne hne] at hd
    exact hd
  · have hd1 : H1 dx = none := by rw [upd_ne hne] at hd; exact hd
    refine e _ dx (fun b o z => ?_) upd_same
    have z1 := same _ _ z
    have nb : b ≠ dx := ne_of_none z1 hd1
    have na : b ≠ a := ne_of_none z1 ha
    rw [upd_ne nb, L2.del_ne na, upd_ne na, upd_ne nb, upd_ne na]
    exact z1
theorem scRd : FnScope ["line", "text"] ["line"] (defScope sRead) := ⟨rfl, rfl, rfl, by decide +kernel, rfl, by decide +kernel, by decide +kernel⟩
theorem ok_read {f fT : Addr} {fd dT : FuncData} (F : Fun K "read_terminals" "read_terminals" sRead f fd) (T : Sy mg) (R : Er K mg cX cP fI dI) (Ts : Kn K mg "is_terminals" sTerms fT dT ["value"]) (GT : FnOk P w K mg base CX0 4 fT dT ["value"] (spTs K)) :
    FnOk P w K mg base (L2.CX P w) 5 f fd ["line"] (spRead K cP) := by
  refine F.okX scRd (fun vs H Q E h => ?_) (fun cdv A outer s H vs Q E hr h => ?_)
  · obtain ⟨x, o, rfl, _⟩ := h
    rfl
  · obtain ⟨x, o, rfl, hx, q, e⟩ := h
    have GI : FnOk P w K mg base CX0 1 fI dI ["self", "line"] (spInit cP) := ok_init R
    have hr2 : Room 2 _ := hr.mono (by decide)
    refine ⟨_, pss_cons (ps_if (pt_not (pt_val (pe_callB call_isi (by rfl) T.isi PyProof.Rows.boot_isinstance (pa_cons (pv 0) (pa_cons (pe_bltn (v := .ty "str") (by rfl) T.str PyProof.Rows.boot_str rfl) pa_nil)))))
          (pss_one (ps_raise rfl (takes_of rfl rfl rfl rfl) (pmk_oex R.oP R.iP R.jP GI hr2 R.bI .nil pass0 rfl R.gP (pa_cons pe_non pa_nil)))) pss_nil)
      (pss_cons (ps_set (i := 1) scRd.nd rfl (Or.inl rfl) (pe_ifExp (pt_cmpR op_ne (pv 0) pe_str (nomark _)) (pe_callTy call_tuple_of (by rfl) T.tuple PyProof.Rows.boot_tuple (pa_cons (pe_split (pv 0) pe_str) pa_nil)) (pe_tup pa_nil)))
      (pss_cons (ps_if (pt_not (pt_val (pe_call GT hr rfl Ts.g Ts.F.kp Ts.b .nil pass0 (pa_cons (pv 1) pa_nil))))
          (pss_one (ps_raise rfl (takes_of rfl rfl rfl rfl) (pmk_oex R.oP R.iP R.jP GI hr2 R.bI .nil pass0 rfl R.gP (pa_cons pe_non pa_nil)))) pss_nil)
      (pss_one (ps_ret (pv 1))))), ?_⟩
    obtain ⟨t, ty, kt⟩ := isi_str hx
    refine ⟨_, rfl, x, _, t, _, _, rfl, .ty _, ty, kt, _, rfl, ?_⟩
    cases o with
    | none => exact ⟨by decide, fun a ha => raise_read (Same.rfl' H) (e rfl) a ha⟩
    | some z =>
      obtain ⟨rfl, hz⟩ := hx
      obtain ⟨l1, l2⟩ := split_len z
      -- behind text = ..
      have after : ∀ (p : Addr) (H1 : Hp), Same H H1 → H1 p = some (.tup ((wordsOf z).map V.str)) → (∀ y ∈ wordsOf z, y.length ≤ 10000) → (wordsOf z).length ≤ 20000 → _ := fun p H1 s1 at1 b1 b2 =>
        show (tSeq (tIfS (tNot (tB (tCall (spTs K) [] E0 (tCons (tVar 1) tNil)))) (tSeq (fun _ σ H => tMkO cP (spInit cP) [] (tCons (tC .non) tNil) σ H fun cls d H' => E cls d H') tNext) tNext) (tSeq (tRet (tVar 1)) tNext)) { nx := fun _ H' => Q .non H', rt := Q } [some (.str z), some (.ref p)] H1 from by
          refine ⟨_, rfl, .ref p, some ((wordsOf z).map some), rfl, tx_strs at1 b1 b2, fun H2 s2 => ⟨_, rfl, ?_⟩⟩
          cases ht : termsO (some ((wordsOf z).map some)) with
          | false => exact ⟨by decide, fun a ha => raise_read (s1.trans s2) (e (by show (if _ then _ else _) = _; rw [ht]; rfl)) a ha⟩
          | true => exact ⟨_, rfl, q (wordsOf z) (by show (if _ then _ else _) = _; rw [ht]; rfl) H2 p (s1.trans s2) (s2 _ _ at1)⟩
      refine ⟨_, rfl, rfl, _, rfl, ite2 (fun h1 => ?_) (fun h1 => ?_)⟩
      · have ne : z ≠ "" := fun hh => by
          rw [hh] at h1
          exact absurd h1 (by decide +kernel)
        have ew : wordsOf z = Txt.split z " " := if_neg ne
        refine ⟨_, rfl, ⟨_, rfl⟩, z, _, rfl, rfl, by decide +kernel, (Nat.le_trans (Nat.add_le_add_right hz 2) (by decide)), fun l hl => ⟨l, _, rfl, .inl ⟨SqL.of upd_same, fun p hp => ?_⟩⟩⟩
        refine after p _ ((same_upd hl).trans (same_upd hp)) (by rw [ew]; exact upd_same) (fun y hy => ?_) ?_
        · rw [ew] at hy
          exact Nat.le_trans (l1 y hy) hz
        · rw [ew]
          omega
      · have eq : z = "" := by
          refine Classical.byContradiction fun ne => h1 ?_
          show (!decide (V.str z = V.str "")) = true
          rw [decide_eq_false (fun hh => ne (V.str.inj hh))]
          rfl
        have ew : wordsOf z = [] := if_pos eq
        refine ⟨Nat.zero_le _, fun p hp => after p _ (same_upd hp) (by rw [ew]; exact upd_same) (fun y hy => ?_) ?_⟩
        · rw [ew] at hy
          cases hy
        · rw [ew]
          exact Nat.zero_le _
end
end LQ
set_option Elab.async false
set_option linter.all false
set_option maxRecDepth 100000
set_option maxHeartbeats 4000000
namespace LQ
open PySem L2 CG CGX
open PySem.W (kitOne Frag Datum Tup Holds)
/-! ### == of data with a type; list of a text -/
def rEqA (K : Frag) (α : Type) [DecidableEq α] [Datum α] : R2 := fun x y H Q => ∃ a b : α, Dp K H x (Datum.toD a) ∧ Dp K H y (Datum.toD b) ∧ Datum.depth α ≤ 60 ∧ Q (.bl (decide (a = b))) H
def rNeA (K : Frag) (α : Type) [DecidableEq α] [Datum α] : R2 := fun x y H Q => ∃ a b : α, Dp K H x (Datum.toD a) ∧ Dp K H y (Datum.toD b) ∧ Datum.depth α ≤ 60 ∧ Q (.bl (decide (a ≠ b))) H
section
variable {X : Cx}
theorem op_eqA (hu : X.A.units + 64 < cLine) {α : Type} [DecidableEq α] [Datum α] : OpR X (compareOp .Eq) (rEqA X.K α) := by
  intro pins s σ H x y v u Q I rx ry h
  obtain ⟨a, b, ha, hb, dp, q⟩ := h
  exact PySem.W.eq_datum (Dp.reads I _ x v ha rx) (Dp.reads I _ y u hb ry) (by omega) ⟨.bl _, H, I, rfl, q⟩
theorem op_neA (hu : X.A.units + 64 < cLine) {α : Type} [DecidableEq α] [Datum α] : OpR X (compareOp .NotEq) (rNeA X.K α) := by
  intro pins s σ H x y v u Q I rx ry h
  obtain ⟨a, b, ha, hb, dp, q⟩ := h
  exact PySem.W.ne_datum (Dp.reads I _ x v ha rx) (Dp.reads I _ y u hb ry) (by omega) ⟨.bl _, H, I, rfl, q⟩
theorem paired_by {α β : Type} {R : α → β → Prop} : ∀ (xs : List α) (ys : List β), xs.length = ys.length → (∀ (j : Nat) (y : β), ys[j]? = some y → ∃ x, xs[j]? = some x ∧ R x y) → Paired R xs ys
  | [], [], _, _ => .nil
  | [], _ :: _, h, _ => nomatch h
  | _ :: _, [], h, _ => nomatch h
  | x :: xs, y :: ys, h, g => by
    obtain ⟨x', e, r⟩ := g 0 y rfl
    cases e
    exact .cons r (paired_by xs ys (Nat.succ.inj h) fun j z hz => g (j + 1) z hz)
def sgn1 (c : Nat) : Str := ⟨#[c]⟩
def sgnsOf (z : Str) : List Str := z.cps.toList.map sgn1
theorem call_listS (hc : X.calm = true) : CallR X (.type "list") (fun xs H Q => ∃ z : Str, xs = [.str z] ∧ z.length ≤ 10000 ∧ ∀ l, H l = none → Q (.ref l) (upd H l (.lst ((sgnsOf z).map V.str)))) := by
  intro pins s σ H xs us Q I r h
  obtain ⟨z, rfl, hz, q⟩ := h
  obtain ⟨u, rfl, t, rfl⟩ := vals1 r
  have hn : z.cps.size ≤ sizeLine := Nat.le_of_lt (line10000 hz)
  refine PySem.call_list_str (I.ok.hd hc) z t (fun h' tk acc c' kp e it => ?_) hn
  have hv : Vals ((sgnsOf z).map V.str) acc.toList := by
    refine paired_by _ _ ?_ fun j y hy => ?_
    · have h1 : acc.toList.length = z.cps.size := by rw [Array.length_toList]; exact it.1
      have h2 : (sgnsOf z).length = z.cps.size := by unfold sgnsOf; rw [List.length_map, Array.length_toList]
      rw [List.length_map, h1, h2]
    · rw [Array.getElem?_toList] at hy
      obtain ⟨c, u, hc, rfl⟩ := it.2 j y hy
      refine ⟨.str (sgn1 c), ?_, ⟨u, rfl⟩⟩
      unfold sgnsOf
      rw [List.getElem?_map, List.getElem?_map, Array.getElem?_toList, hc] <;> rfl
  refine ⟨.ref s.heap.objs.size, _, I.laid (t' := tk) kp (Nat.le_refl _) (show ObjOk X.prog X.w _ h' _ (.lst ((sgnsOf z).map V.str)) from ⟨?_, acc.toList, c', hv, by simpa using e⟩), rfl, q _ (I.hok.fresh (Nat.le_refl _))⟩
  rw [List.length_map]
  unfold sgnsOf
  rw [List.length_map, Array.length_toList]
  exact hn
end
/-! ### the law's own look at symbols -/
theorem lt_one (a c : Nat) : decide ((⟨#[c]⟩ : Str).cps.toList < (⟨#[a]⟩ : Str).cps.toList) = decide (c < a) := by
  congr 1
  show ([c] < [a]) = (c < a)
  rw [eq_iff_iff]
  simp [List.cons_lt_cons_iff]
structure Lw (mg : Str → Option Value) : Prop where
  isi : mg "isinstance" = none
  str : mg "str" = none
  len : mg "len" = none
  list : mg "list" = none
def spIsS : Sp := fun vs H Q _ => ∃ (z : Str) (m : Nat), vs = [.str z, .int (m : Nat)] ∧ z.length ≤ 10000 ∧ ∀ H', Same H H' → Q (.bl (decide (1 ≤ z.length ∧ z.length ≤ m) && smallL z.cps.toList)) H'
theorem filt_small (l : List Nat) : decide ((((List.range l.length).filter fun i => !low (l.getD i 0)).map fun i => sgn1 (l.getD i 0)) = []) = smallL l := by
  rw [Bool.eq_iff_iff, decide_eq_true_eq, List.map_eq_nil_iff, List.filter_eq_nil_iff]
  unfold smallL
  rw [List.all_eq_true]
  constructor
  · intro h x hx
    obtain ⟨i, hi, rfl⟩ := List.mem_iff_getElem.mp hx
    have := h i (List.mem_range.mpr hi)
    rw [List.getD_eq_getElem?_getD, List.getElem?_eq_getElem hi] at this
    simpa using this
  · intro h i hi
    have hi' := List.mem_range.mp hi
    rw [List.getD_eq_getElem?_getD, List.getElem?_eq_getElem hi']
    have := h _ (List.getElem_mem hi')
    simpa using this
section
variable {P : Program} {w : World} {K : Frag} {mg : Str → Option Value} {base : Heap}
theorem scIS : FnScope ["_law_text", "_law_most", "_law_one"] ["_law_text", "_law_most"] (defScope sIsSmall) := ⟨rfl, rfl, rfl, by decide +kernel, rfl, by decide +kernel, by decide +kernel⟩
theorem ok_issmall {f : Addr} {fd : FuncData} (F : Fun K "_law_is_small" "_law_is_small" sIsSmall f fd) (T : Lw mg) : FnOk P w K mg base CX0 1 f fd ["_law_text", "_law_most"] spIsS := by
  refine F.ok scIS (fun vs H Q E h => ?_) (fun cdv A outer s H vs Q E hr h => ?_)
  · obtain ⟨z, m, rfl, _⟩ := h
    rfl
  · obtain ⟨z, m, rfl, hz, q⟩ := h
    refine ⟨_, pss_one (ps_ret (pe_and (pe_chain op_le op_le pe_int (pe_callB call_len_str (by rfl) T.len PySem.boot_len (pa_cons (pv 0) pa_nil)) (pv 1))
      (pe_one (pe_cmpR (op_eqA hr.units (α := List Str)) (pe_lc (own := [("_law_one", 2)]) (g := gName 2) rfl scIS.nd (pi_str (pv 0))
        (blkOk_by (N := ["_law_text", "_law_most", "_law_one"]) (sc := defScope sIsSmall) (by decide +kernel)) (fun _ _ _ _ _ => pg_name (i := 2) scIS.nd rfl (Or.inl rfl))
        (fun _ _ _ _ _ => pts_one (pt_not (pt_chain op_le_str op_le_str pe_str (pv 2) pe_str))) (fun _ _ _ _ _ => pv 2)) (pe_lst pa_nil) (nomark _))))), ?_⟩
    have e0 : z.length = z.cps.toList.length := len_cps z
    refine ⟨_, rfl, z, rfl, Nat.le_of_lt (line10000 hz), 1, _, rfl, rfl, _, rfl, ite2 (fun h1 => ?_) (fun h1 => ?_)⟩
    · have g1 := of_decide_eq_true h1
      refine ⟨_, rfl, _, _, rfl, rfl, _, rfl, ite2 (fun h2 => ?_) (fun h2 => ?_)⟩
      · have g2 := of_decide_eq_true h2
        rw [decide_eq_true (show 1 ≤ z.length ∧ z.length ≤ m by omega), Bool.true_and] at q
        refine ⟨_, rfl, z, rfl, fun D nD => ?_⟩
        refine lc_gen walk_str (fun i => !low (z.cps.toList.getD i 0)) (fun i => .str (sgn1 (z.cps.toList.getD i 0))) (line10000 hz) nD (fun _ => rfl) (fun _ _ => True.intro) ?_ ?_
        · rintro i x H' H'' hi same ⟨rfl, c, hc, rfl⟩
          have e : z.cps.toList.getD i 0 = c := by
            rw [List.getD_eq_getElem?_getD, Array.getElem?_toList, hc] <;> rfl
          rw [e]
          refine ⟨rfl, fun R h => ?_, fun _ H3 s3 R h => ⟨_, rfl, h _ (Same.rfl' _)⟩⟩
          have ha : (!decide ((⟨#[c]⟩ : Str).cps.toList < (Str.ofString "a").cps.toList)) = decide (97 ≤ c) := by
            rw [show Str.ofString "a" = ⟨#[97]⟩ by decide +kernel, lt_one, ← decide_not]
            congr 1
            rw [eq_iff_iff]
            omega
          have hb : (!decide ((Str.ofString "z").cps.toList < (⟨#[c]⟩ : Str).cps.toList)) = decide (c ≤ 122) := by
            rw [show Str.ofString "z" = ⟨#[122]⟩ by decide +kernel, lt_one, ← decide_not]
            congr 1
            rw [eq_iff_iff]
            omega
          refine ⟨_, rfl, _, _, rfl, rfl, _, rfl, ?_⟩
          rw [ha]
          refine ite2 (fun h3 => ?_) (fun h3 => ?_)
          · refine ⟨_, _, rfl, rfl, _, rfl, ?_⟩
            rw [hb]
            have e2 : low c = decide (c ≤ 122) := by
              unfold low
              congr 1
              rw [eq_iff_iff]
              have := of_decide_eq_true h3
              omega
            rw [e2] at h
            exact h _ (Same.rfl' _)
          · have e2 : low c = false := by
              unfold low
              have := mt decide_eq_true h3
              rw [decide_eq_false]
              omega
            rw [e2] at h
            exact ⟨_, rfl, h _ (Same.rfl' _)⟩
        · intro H' same at'
          refine ⟨by decide, fun p hp => ⟨((List.range z.cps.size).filter fun i => !low (z.cps.toList.getD i 0)).map fun i => sgn1 (z.cps.toList.getD i 0), [], ?_, .lst (SqL.of upd_same) .nil, by decide, ?_⟩⟩
          · refine .lst (SqL.of ((same_upd hp) _ _ at')) ?_
            have := dp_strs (K := K) (H := upd H' p (.lst [])) (((List.range z.cps.size).filter fun i => !low (z.cps.toList.getD i 0)).map fun i => sgn1 (z.cps.toList.getD i 0))
            rw [List.map_map] at this
            exact this
          · have e := filt_small z.cps.toList
            rw [Array.length_toList] at e
            rw [e]
            exact q _ (same.trans (same_upd hp))
      · have g2 := mt decide_eq_true h2
        rw [decide_eq_false (show ¬ (1 ≤ z.length ∧ z.length ≤ m) by omega), Bool.false_and] at q
        exact q H (Same.rfl' H)
    · have g1 := mt decide_eq_true h1
      rw [decide_eq_false (show ¬ (1 ≤ z.length ∧ z.length ≤ m) by omega), Bool.false_and] at q
      exact ⟨_, rfl, q H (Same.rfl' H)⟩
end
end LQ
set_option Elab.async false
set_option linter.all false
set_option maxRecDepth 100000
set_option maxHeartbeats 4000000
namespace LQ
open PySem L2 CG CGX
open PySem.W (kitOne Frag Datum Tup Holds)
theorem cut_head (z : Str) : (cutS z none (some 1)).cps.toList = z.cps.toList.take 1 := by
  show ((z.cps.toList.drop 0).take (min 1 z.length - 0)).toArray.toList = _
  rw [List.drop_zero, Nat.sub_zero, len_cps]
  simp only [List.toList_toArray]
  cases z.cps.toList <;> simp
theorem cut_tail (z : Str) : (cutS z (some 1) none).cps.toList = z.cps.toList.drop 1 := by
  show ((z.cps.toList.drop (min 1 z.length)).take (z.length - min 1 z.length)).toArray.toList = _
  rw [len_cps]
  simp only [List.toList_toArray]
  cases z.cps.toList with
  | nil => rfl
  | cons c r => simp [Nat.min_eq_left]
theorem inV_signs (c : Nat) : ∀ l : List Nat, inV (.str (sgn1 c)) ((l.map sgn1).map V.str) = decide (c ∈ l)
  | [] => rfl
  | x :: l => by
    show (eqV (.str (sgn1 x)) (.str (sgn1 c)) || inV (.str (sgn1 c)) ((l.map sgn1).map V.str)) = _
    rw [inV_signs c l]
    show ((sgn1 x == sgn1 c) || _) = _
    have e : (sgn1 x == sgn1 c) = decide (c = x) := by
      rw [Bool.eq_iff_iff, beq_iff_eq, decide_eq_true_eq, str_ext]
      show [x] = [c] ↔ _
      simp [eq_comm]
    rw [e, Bool.eq_iff_iff]
    simp
theorem law_signs (c : Nat) : decide (c ∈ (Str.ofString "+-*/^=<>!?&|.,;:()[]").cps.toList) = decide (c ∈ signs) := by
  rw [show (Str.ofString "+-*/^=<>!?&|.,;:()[]").cps.toList = [43, 45, 42, 47, 94, 61, 60, 62, 33, 63, 38, 124, 46, 44, 59, 58, 40, 41, 91, 93] by decide +kernel]
  unfold signs
  congr 1
  simp only [List.mem_cons, List.not_mem_nil, or_false, eq_iff_iff]
  omega
theorem name_in (z : Str) : (!inV (.str z) [.str "shift", .str "accept"]) = (!decide (z.cps.toList = [115, 104, 105, 102, 116]) && !decide (z.cps.toList = [97, 99, 99, 101, 112, 116])) := by
  show (!((Str.ofString "shift" == z) || ((Str.ofString "accept" == z) || false))) = _
  rw [Bool.or_false, Bool.not_or]
  have e1 : (Str.ofString "shift" == z) = decide (z.cps.toList = [115, 104, 105, 102, 116]) := by
    rw [Bool.eq_iff_iff, beq_iff_eq, decide_eq_true_eq, str_ext, show (Str.ofString "shift").cps.toList = [115, 104, 105, 102, 116] by decide +kernel]
    exact eq_comm
  have e2 : (Str.ofString "accept" == z) = decide (z.cps.toList = [97, 99, 99, 101, 112, 116]) := by
    rw [Bool.eq_iff_iff, beq_iff_eq, decide_eq_true_eq, str_ext, show (Str.ofString "accept").cps.toList = [97, 99, 99, 101, 112, 116] by decide +kernel]
    exact eq_comm
  rw [e1, e2]
def spTold (K : Frag) : Sp := fun vs H Q _ => ∃ (x : V) (o : Option Str), vs = [x] ∧ Sx K H x o ∧ ∀ p H', Same H H' → H' p = some (.lst [.bl (lO isTerm o), .bl (lO isNont o), .bl (lO isName o)]) → Q (.ref p) H'
section
variable {P : Program} {w : World} {K : Frag} {mg : Str → Option Value} {base : Heap}
theorem scIT : FnScope ["_law_value"] ["_law_value"] (defScope sIsTold) := ⟨rfl, rfl, rfl, by decide +kernel, rfl, by decide +kernel, by decide +kernel⟩
theorem ok_istold {f fS : Addr} {fd dS : FuncData} (F : Fun K "_law_is_told_terminal" "_law_is_told_terminal" sIsTold f fd) (T : Lw mg) (S : Kn K mg "_law_is_small" sIsSmall fS dS ["_law_text", "_law_most"]) :
    FnOk P w K mg base CX0 2 f fd ["_law_value"] (spO K isTerm) := by
  have GS : FnOk P w K mg base CX0 1 fS dS ["_law_text", "_law_most"] spIsS := ok_issmall S.F T
  refine F.ok scIT (fun vs H Q E h => ?_) (fun cdv A outer s H vs Q E hr h => ?_)
  · obtain ⟨x, o, rfl, _⟩ := h
    rfl
  · obtain ⟨x, o, rfl, hx, q⟩ := h
    refine ⟨_, pss_cons (ps_if (pt_not (pt_val (pe_callB call_isi (by rfl) T.isi PyProof.Rows.boot_isinstance (pa_cons (pv 0) (pa_cons (pe_bltn (v := .ty "str") (by rfl) T.str PyProof.Rows.boot_str rfl) pa_nil)))))
          (pss_one (ps_ret pe_bl)) pss_nil)
      (pss_one (ps_ret (pe_or (pe_call GS hr rfl S.g S.F.kp S.b .nil pass0 (pa_cons (pv 0) (pa_cons pe_int pa_nil)))
        (pe_one (pe_and (pe_cmpR op_eq (pe_callB call_len_str (by rfl) T.len PySem.boot_len (pa_cons (pv 0) pa_nil)) pe_int (nomark _))
          (pe_one (pe_cmpR op_in_seq (pv 0) (pe_callTy (call_listS rfl) (by rfl) T.list PyProof.Rows.boot_list (pa_cons pe_str pa_nil)) (by rfl)))))))), ?_⟩
    obtain ⟨t, ty, kt⟩ := isi_str hx
    refine ⟨_, rfl, x, _, t, _, _, rfl, .ty _, ty, kt, _, rfl, ?_⟩
    cases o with
    | none => exact q H (Same.rfl' H)
    | some z =>
      obtain ⟨rfl, hz⟩ := hx
      have e0 : z.length = z.cps.toList.length := len_cps z
      refine ⟨_, rfl, z, 8, rfl, hz, fun H1 s1 => ⟨_, rfl, ?_⟩⟩
      have ew : (decide (1 ≤ z.length ∧ z.length ≤ 8) && smallL z.cps.toList) = isWord z.cps.toList := by
        unfold isWord
        rw [e0]
      rw [ew]
      refine ite2 (fun h1 => ?_) (fun h1 => ?_)
      · have e : lO isTerm (some z) = true := by
          show (isWord z.cps.toList || _) = true
          rw [h1, Bool.true_or]
        rw [e] at q
        exact q H1 s1
      · have w0 : isWord z.cps.toList = false := Bool.eq_false_iff.mpr h1
        refine ⟨_, rfl, z, rfl, Nat.le_of_lt (line10000 hz), rfl, _, rfl, ite2 (fun h2 => ?_) (fun h2 => ?_)⟩
        · have g2 : (V.int (z.length : Int)) = V.int 1 := of_decide_eq_true h2
          have g3 : z.cps.toList.length = 1 := by
            injection g2 with g2
            omega
          obtain ⟨c, hc⟩ := List.length_eq_one_iff.mp g3
          have ez : z = sgn1 c := str_ext.mpr hc
          refine ⟨_, rfl, _, rfl, by decide +kernel, fun l hl => ⟨l, _, rfl, .inl (SqL.of upd_same), rfl, by decide +kernel, ?_⟩⟩
          have e : lO isTerm (some z) = inV (.str z) ((sgnsOf (Str.ofString "+-*/^=<>!?&|.,;:()[]")).map V.str) := by
            show (isWord z.cps.toList || _) = _
            rw [w0, Bool.false_or, hc, ez]
            unfold sgnsOf
            rw [inV_signs, law_signs]
          rw [e] at q
          exact q _ (s1.trans (same_upd hl))
        · have g2 := mt decide_eq_true h2
          have e : lO isTerm (some z) = false := by
            show (isWord z.cps.toList || _) = _
            rw [w0, Bool.false_or]
            split
            · rename_i c hc
              rw [hc] at e0
              exact absurd (by rw [e0]; rfl) g2
            · rfl
          rw [e] at q
          exact q H1 s1
theorem scTd : FnScope ["_law_value", "_law_great"] ["_law_value"] (defScope sTold) := ⟨rfl, rfl, rfl, by decide +kernel, rfl, by decide +kernel, by decide +kernel⟩
theorem ok_told {f fS fT : Addr} {fd dS dT : FuncData} (F : Fun K "_law_told" "_law_told" sTold f fd) (T : Lw mg) (S : Kn K mg "_law_is_small" sIsSmall fS dS ["_law_text", "_law_most"])
    (Tt : Kn K mg "_law_is_told_terminal" sIsTold fT dT ["_law_value"]) : FnOk P w K mg base CX0 3 f fd ["_law_value"] (spTold K) := by
  have GS : FnOk P w K mg base CX0 1 fS dS ["_law_text", "_law_most"] spIsS := ok_issmall S.F T
  have GT : FnOk P w K mg base CX0 2 fT dT ["_law_value"] (spO K isTerm) := ok_istold Tt.F T S
  refine F.ok scTd (fun vs H Q E h => ?_) (fun cdv A outer s H vs Q E hr h => ?_)
  · obtain ⟨x, o, rfl, _⟩ := h
    rfl
  · obtain ⟨x, o, rfl, hx, q⟩ := h
    have hr1 : Room 1 _ := hr.mono (by decide)
    refine ⟨_, pss_cons (ps_if (pt_not (pt_val (pe_callB call_isi (by rfl) T.isi PyProof.Rows.boot_isinstance (pa_cons (pv 0) (pa_cons (pe_bltn (v := .ty "str") (by rfl) T.str PyProof.Rows.boot_str rfl) pa_nil)))))
          (pss_one (ps_ret (pe_lst (pa_cons pe_bl (pa_cons pe_bl (pa_cons pe_bl pa_nil)))))) pss_nil)
      (pss_cons (ps_set (i := 1) scTd.nd rfl (Or.inl rfl) (pe_and (pe_chain op_le_str op_le_str pe_str (pe_slice sl_str (pv 0) po_none (po_some pe_int)) pe_str)
          (pe_one (pe_or (pe_cmpR op_eq (pe_callB call_len_str (by rfl) T.len PySem.boot_len (pa_cons (pv 0) pa_nil)) pe_int (nomark _))
            (pe_one (pe_call GS hr1 rfl S.g S.F.kp S.b .nil pass0 (pa_cons (pe_slice sl_str (pv 0) (po_some pe_int) po_none) (pa_cons pe_int pa_nil))))))))
      (pss_one (ps_ret (pe_lst (pa_cons (pe_call GT hr rfl Tt.g Tt.F.kp Tt.b .nil pass0 (pa_cons (pv 0) pa_nil)) (pa_cons (pv 1)
        (pa_cons (pe_and (pe_call GS hr1 rfl S.g S.F.kp S.b .nil pass0 (pa_cons (pv 0) (pa_cons pe_int pa_nil)))
          (pe_one (pe_cmpR op_notIn_seq (pv 0) (pe_lst (pa_cons pe_str (pa_cons pe_str pa_nil))) (by rfl)))) pa_nil))))))), ?_⟩
    obtain ⟨t, ty, kt⟩ := isi_str hx
    refine ⟨_, rfl, x, _, t, _, _, rfl, .ty _, ty, kt, _, rfl, ?_⟩
    cases o with
    | none => exact ⟨(by show 3 ≤ sizeLine; decide), fun p hp => q p _ (same_upd hp) upd_same⟩
    | some z =>
      obtain ⟨rfl, hz⟩ := hx
      have e0 : z.length = z.cps.toList.length := len_cps z
      have ew : (decide (1 ≤ z.length ∧ z.length ≤ 8) && smallL z.cps.toList) = isWord z.cps.toList := by
        unfold isWord
        rw [e0]
      -- behind great = ..
      have after : ∀ H1, Same H H1 → _ := fun H1 s1 =>
        show tRet (tLst (tCons (tCall (spO K isTerm) [] E0 (tCons (tVar 0) tNil)) (tCons (tVar 1) (tCons (tAndV (tCall spIsS [] E0 (tCons (tVar 0) (tCons (tC (.int 8)) tNil)))
          (tOp (rIn K true) (tVar 0) (tLst (tCons (tC (.str "shift")) (tCons (tC (.str "accept")) tNil))))) tNil)))) { nx := fun _ H' => Q .non H', rt := Q } [some (.str z), some (.bl (isNont z.cps.toList))] H1 from by
          refine ⟨_, rfl, _, some z, rfl, ⟨rfl, hz⟩, fun H2 s2 => ⟨_, rfl, _, rfl, z, 8, rfl, hz, fun H3 s3 => ⟨_, rfl, ?_⟩⟩⟩
          rw [ew]
          refine ite2 (fun h1 => ?_) (fun h1 => ?_)
          · refine ⟨_, rfl, (by show 2 ≤ sizeLine; decide), fun l hl => ⟨l, _, rfl, .inl (SqL.of upd_same), rfl, by decide +kernel, (by show 3 ≤ sizeLine; decide), fun p hp => ?_⟩⟩
            have e : lO isName (some z) = !inV (.str z) [.str "shift", .str "accept"] := by
              rw [name_in]
              show (isWord z.cps.toList && _ && _) = _
              rw [h1, Bool.true_and]
            rw [e] at q
            exact q p _ ((((s1.trans s2).trans s3).trans (same_upd hl)).trans (same_upd hp)) upd_same
          · have w0 : isWord z.cps.toList = false := Bool.eq_false_iff.mpr h1
            refine ⟨(by show 3 ≤ sizeLine; decide), fun p hp => ?_⟩
            have e : lO isName (some z) = false := by
              show (isWord z.cps.toList && _ && _) = _
              rw [w0, Bool.false_and, Bool.false_and]
            rw [e] at q
            exact q p _ (((s1.trans s2).trans s3).trans (same_upd hp)) upd_same
      have step : ∀ (b : Bool) H1, Same H H1 → b = isNont z.cps.toList → tRet (tLst (tCons (tCall (spO K isTerm) [] E0 (tCons (tVar 0) tNil)) (tCons (tVar 1) (tCons (tAndV (tCall spIsS [] E0 (tCons (tVar 0) (tCons (tC (.int 8)) tNil)))
          (tOp (rIn K true) (tVar 0) (tLst (tCons (tC (.str "shift")) (tCons (tC (.str "accept")) tNil))))) tNil)))) { nx := fun _ H' => Q .non H', rt := Q } [some (.str z), some (.bl b)] H1 := by
        rintro b H1 s1 rfl
        exact after H1 s1
      refine ⟨_, rfl, 1, rfl, z, rfl, Nat.le_of_lt (line10000 hz), _, _, rfl, rfl, _, rfl, ?_⟩
      rw [cut_head, show (Str.ofString "A").cps.toList = [65] by decide +kernel]
      cases hc : z.cps.toList with
      | nil =>
        rw [if_neg (by decide)]
        exact ⟨_, rfl, step _ H (Same.rfl' H) (by rw [hc]; rfl)⟩
      | cons c r =>
        have ea : (!decide ([c] < [65])) = decide (65 ≤ c) := by
          have := lt_one 65 c
          rw [show decide ([c] < [65]) = decide (c < 65) from this, ← decide_not]
          congr 1
          rw [eq_iff_iff]
          omega
        have eb : (!decide ([90] < [c])) = decide (c ≤ 90) := by
          have := lt_one c 90
          rw [show decide ([90] < [c]) = decide (90 < c) from this, ← decide_not]
          congr 1
          rw [eq_iff_iff]
          omega
        show if (!decide ([c] < [65])) = true then _ else _
        rw [ea]
        have en : isNont z.cps.toList = (decide (r.length ≤ 5) && decide (65 ≤ c ∧ c ≤ 90) && smallL r) := by rw [hc]; rfl
        rw [hc, List.length_cons] at e0
        refine ite2 (fun h1 => ?_) (fun h1 => ?_)
        · have g1 := of_decide_eq_true h1
          refine ⟨_, _, rfl, rfl, _, rfl, ?_⟩
          rw [cut_head, hc, show (Str.ofString "Z").cps.toList = [90] by decide +kernel]
          show if (!decide ([90] < [c])) = true then _ else _
          rw [eb]
          refine ite2 (fun h2 => ?_) (fun h2 => ?_)
          · have g2 := of_decide_eq_true h2
            refine ⟨_, rfl, z, rfl, Nat.le_of_lt (line10000 hz), rfl, _, rfl, ite2 (fun h3 => ?_) (fun h3 => ?_)⟩
            · have g3 : (V.int (z.length : Int)) = V.int 1 := of_decide_eq_true h3
              have g4 : r = [] := by
                injection g3 with g3
                exact List.length_eq_zero_iff.mp (by omega)
              refine step _ H (Same.rfl' H) ?_
              rw [en, g4, decide_eq_true (show 65 ≤ c ∧ c ≤ 90 from ⟨g1, g2⟩)]
              rfl
            · have g3 : r.length ≠ 0 := fun hh => mt decide_eq_true h3 (by rw [e0, hh]; rfl)
              refine ⟨_, rfl, 1, rfl, z, rfl, Nat.le_of_lt (line10000 hz), cutS z (some 1) none, 5, rfl, ?_, fun H1 s1 => ?_⟩
              · rw [len_cps, cut_tail, hc]
                show r.length ≤ 10000
                omega
              · refine step _ H1 s1 ?_
                rw [en, len_cps, cut_tail, hc, decide_eq_true (show 65 ≤ c ∧ c ≤ 90 from ⟨g1, g2⟩)]
                show (decide (1 ≤ r.length ∧ r.length ≤ 5) && smallL r) = _
                rw [Bool.and_true]
                congr 2
                rw [eq_iff_iff]
                omega
          · have g2 := mt decide_eq_true h2
            refine step _ H (Same.rfl' H) ?_
            rw [en, decide_eq_false (show ¬ (65 ≤ c ∧ c ≤ 90) by omega), Bool.and_false, Bool.false_and]
        · have g1 := mt decide_eq_true h1
          refine ⟨_, rfl, step _ H (Same.rfl' H) ?_⟩
          rw [en, decide_eq_false (show ¬ (65 ≤ c ∧ c ≤ 90) by omega), Bool.and_false, Bool.false_and]
end
end LQ
set_option Elab.async false
set_option linter.all false
set_option maxRecDepth 100000
set_option maxHeartbeats 4000000
namespace LQ
open PySem L2 CG CGX TL
open PySem.W (kitOne Frag Datum Tup Holds)
/-! ### draws -/
/-- all but what stands at d is kept -/
def SB (d : Addr) (H H' : Hp) : Prop := ∀ b o, b ≠ d → H b = some o → H' b = some o
theorem SB.refl {d : Addr} {H : Hp} : SB d H H := fun _ _ _ e => e
theorem SB.trans {d : Addr} {H H1 H2 : Hp} (a : SB d H H1) (b : SB d H1 H2) : SB d H H2 := fun c o n e => b c o n (a c o n e)
theorem SB.of {d : Addr} {H H' : Hp} (s : Same H H') : SB d H H' := fun b o _ e => s b o e
theorem SB.but {d : Addr} {H H' : Hp} (s : But d H H') : SB d H H' := fun b o n e => by rw [s b n]; exact e
theorem DiceAt.keep {d : Addr} {H H' : Hp} (h : DiceAt H d) (s : Same H H') : DiceAt H' d := by
  obtain ⟨a, b, c, e⟩ := h
  exact ⟨a, b, c, s _ _ e⟩
theorem DiceAt.ne {d p : Addr} {H : Hp} (h : DiceAt H d) (n : H p = none) : p ≠ d := fun e => by
  obtain ⟨_, _, _, z⟩ := h
  rw [← e, n] at z
  cases z
def spPk : Sp := fun vs H Q E => spPick vs H Q E ∨ ∃ (d : Addr) (z : Str), vs = [.ref d, .str z] ∧ DiceAt H d ∧ 0 < z.length ∧ z.length < 1000 ∧ ∀ c H', c ∈ z.cps.toList → DiceAt H' d → But d H H' → Q (.str (sgn1 c)) H'
theorem lc_draw {lo : Int} {n : Nat} {te : TE} {k : Nat} {σ : L2.St} {H1 : Hp} {D d : Addr} {Qd : Hp → Prop} (Ok : Str → Prop) (hn : n ≤ 1000) (nD : H1 D = none) (hd : DiceAt H1 d)
    (hw : ∀ x, wipe ((wipe σ [k]).set k (some x)) [k] = wipe σ [k])
    (hs : ∀ x H', SB d H1 H' → DiceAt H' d → ∀ R : VK, (∀ z H'', Ok z → DiceAt H'' d → SB d H' H'' → R (.str z) H'') → te ((wipe σ [k]).set k (some x)) H' R)
    (hq : ∀ (H' : Hp) (zs : List Str), SB d H1 H' → DiceAt H' d → zs.length = n → (∀ z ∈ zs, Ok z) → H' D = some (.lst (zs.map V.str)) → Qd H') :
    ∃ W : Nat → Nat → Hp → Prop, (∃ m, W 0 m (upd H1 D (.lst []))) ∧ ∀ i m H, W i m H →
      ((Itr lo n).stop i H ∧ Qd H) ∨ ((Itr lo n).go i H ∧ ∃ Nx : Hp → Prop, (∀ H', Nx H' → ∃ m', m' < m ∧ W (i + 1) m' H') ∧ ∀ x H', (Itr lo n).yld i H x H' → gName k x (wipe σ [k]) H' fun σ2 H2 => wipe σ2 [k] = wipe σ [k] ∧ tYes σ2 H2 fun b H3 =>
        if b = true then te σ2 H3 fun y H4 => ∃ acc, H4 D = some (.lst acc) ∧ acc.length < sizeLine ∧ Nx (upd H4 D (.lst (acc ++ [y]))) else Nx H3) := by
  have nd : D ≠ d := hd.ne nD
  refine lc_it walk_range (fun i H' => SB d H1 H' ∧ DiceAt H' d ∧ ∃ zs : List Str, zs.length = i ∧ (∀ z ∈ zs, Ok z) ∧ H' D = some (.lst (zs.map V.str)))
    ⟨SB.of (same_upd nD), hd.keep (same_upd nD), [], rfl, (fun _ h => nomatch h), upd_same⟩ (fun _ _ _ _ => True.intro) ?_ (fun H' ⟨a, b, zs, e, f, g⟩ => hq H' zs a b e f g)
  rintro i x H' H'' hi ⟨sb, da, zs, el, eo, at'⟩ ⟨rfl, rfl⟩
  refine ⟨hw _, ?_⟩
  show te _ _ _
  refine hs _ H'' sb da _ fun z H4 oz d4 s4 => ⟨_, s4 _ _ nd at', ?_, ?_, ?_, zs ++ [z], ?_, ?_, ?_⟩
  · rw [List.length_map, el]
    exact Nat.lt_of_lt_of_le hi (Nat.le_trans hn (by decide))
  · intro b o nb e
    rw [upd_ne (ne_of_none e nD)]
    exact s4 _ _ nb (sb _ _ nb e)
  · obtain ⟨a, b, c, e⟩ := d4
    exact ⟨a, b, c, by rw [upd_ne (Ne.symm nd)]; exact e⟩
  · rw [List.length_append, el]
    rfl
  · intro y hy
    rcases List.mem_append.mp hy with h | h
    · exact eo y h
    · rw [List.mem_singleton.mp h]
      exact oz
  · rw [upd_same, List.map_append]
    rfl
theorem join_len0 : ∀ zs : List Str, (∀ z ∈ zs, z.length = 1) → (Txt.join "" zs).length = zs.length := by
  intro zs h
  rw [join_eq]
  have e : ∀ ys : List (List Nat), (∀ y ∈ ys, y.length = 1) → (joinL [] ys).length = ys.length := by
    intro ys
    induction ys with
    | nil => intro _; rfl
    | cons y ys ih =>
      intro hy
      cases ys with
      | nil => exact hy y List.mem_cons_self
      | cons y2 r =>
        show (y ++ ([] ++ joinL [] (y2 :: r))).length = _
        rw [List.nil_append, List.length_append, ih fun z hz => hy z (List.mem_cons_of_mem _ hz), hy y List.mem_cons_self, List.length_cons (a := y)]
        omega
  have e2 := e (zs.map tl) fun y hy => by
    obtain ⟨z, hz, rfl⟩ := List.mem_map.mp hy
    have := h z hz
    rw [len_cps] at this
    exact this
  rw [List.length_map] at e2
  rw [len_cps]
  have e3 := tl_join (Str.ofString "") zs
  rw [show tl (Str.ofString "") = [] by decide +kernel] at e3
  show (tl (Str.join "" zs)).length = _
  rw [e3]
  exact e2
theorem cutS_len (z : Str) (lo hi : Option Int) : (cutS z lo hi).length ≤ z.length := by
  rw [len_cps, len_cps z]
  show ((List.take _ (List.drop _ _)).toArray.toList).length ≤ _
  rw [List.toList_toArray, List.length_take, List.length_drop]
  omega
section
variable {P : Program} {w : World} {K : Frag} {mg : Str → Option Value} {base : Heap}
theorem ok_pk {f fR : Addr} {fd fdR : FuncData} (F : Fun K "_law_pick" "_law_pick" sPick f fd) (T : Blt mg) (FR : Fun K "_law_roll" "_law_roll" sRoll fR fdR)
    (gR : mg "_law_roll" = some (.ref fR)) (bR : Binds K fdR ["_law_dice_here", "_law_total"] []) : FnOk P w K mg base CX0 2 f fd ["_law_dice_here", "_law_items"] spPk := by
  have GR : FnOk P w K mg base CX0 1 fR fdR ["_law_dice_here", "_law_total"] spRoll := ok_roll FR T
  refine F.ok scP (fun vs H Q E h => ?_) (fun cdv A outer s H vs Q E hr h => ?_)
  · rcases h with ⟨d, l, xs, rfl, _⟩ | ⟨d, z, rfl, _⟩ <;> rfl
  · refine ⟨_, pss_one (ps_ret (pe_ix ix_seq (pv 1) (pe_call GR hr rfl gR FR.kp bR .nil pass0
      (pa_cons (pv 0) (pa_cons (pe_callB call_len (by rfl) T.len PySem.boot_len (pa_cons (pv 1) pa_nil)) pa_nil))) (fun _ _ => rfl))), ?_⟩
    rcases h with ⟨d, l, xs, rfl, hd, hl, ne, x0, x1, q⟩ | ⟨d, z, rfl, hd, x0, x1, q⟩
    · refine ⟨_, rfl, _, rfl, _, rfl, .ref l, _, rfl, .inl ⟨_, SqL.of hl, rfl⟩, d, _, rfl, hd, (by omega), (by omega), fun r H' r0 r1 hd' same => ?_⟩
      obtain ⟨j, rfl⟩ := Int.eq_ofNat_of_zero_le r0
      have hj : j < xs.length := by omega
      refine .inl ⟨l, xs, _, xs[j], rfl, rfl, SqL.of ((same l ne).trans hl), atI_nat (by simp [hj]), ?_⟩
      exact q _ _ (List.getElem_mem hj) hd' same
    · have hz : z.length ≤ sizeLine := Nat.le_of_lt (Nat.lt_trans x1 (by decide))
      refine ⟨_, rfl, _, rfl, _, rfl, .str z, _, rfl, ⟨hz, rfl⟩, d, _, rfl, hd, (by omega), (by omega), fun r H' r0 r1 hd' same => ?_⟩
      obtain ⟨j, rfl⟩ := Int.eq_ofNat_of_zero_le r0
      have hj : j < z.cps.toList.length := by rw [← len_cps]; omega
      refine .inr (.inr ⟨z, _, z.cps.toList[j], rfl, rfl, hz, atI_nat (by simp [hj]), ?_⟩)
      exact q _ _ (List.getElem_mem hj) hd' same
end
end LQ
set_option Elab.async false
set_option linter.all false
set_option maxRecDepth 100000
set_option maxHeartbeats 4000000
namespace LQ
open PySem L2 CG CGX TL
open PySem.W (kitOne Frag Datum Tup Holds)
structure Lr (mg : Str → Option Value) : Prop where
  range : mg "range" = none
  tuple : mg "tuple" = none
def spWordL : Sp := fun vs H Q _ => ∃ d : Addr, vs = [.ref d] ∧ DiceAt H d ∧ ∀ (z : Str) H', z.length ≤ 100 → DiceAt H' d → SB d H H' → Q (.str z) H'
def spRowL : Sp := fun vs H Q _ => ∃ d : Addr, vs = [.ref d] ∧ DiceAt H d ∧ ∀ p (zs : List Str) H', zs.length ≤ 61 → (∀ z ∈ zs, isTerm z.cps.toList = true) → H' p = some (.tup (zs.map V.str)) → H p = none → DiceAt H' d → SB d H H' → Q (.ref p) H'
theorem len_app (a b : Str) : (a ++ b).length = a.length + b.length := by
  have e : tl (a ++ b) = tl a ++ tl b := tl_append a b
  rw [len_cps, len_cps a, len_cps b]
  show (tl (a ++ b)).length = _
  rw [e, List.length_append]
theorem alpha_len : (Str.ofString "abcdefghijklmnopqrstuvwxyz").length = 26 ∧ (Str.ofString "ABCDEFGHIJKLMNOPQRSTUVWXYZ").length = 26 := by decide +kernel
theorem mul8 : MulOk "a" 8 ∧ MulOk "a" 9 ∧ MulOk "x" 8 ∧ (Txt.mul "a" 8).length = 8 ∧ (Txt.mul "a" 9).length = 9 ∧ Txt.mul "x" 8 = "xxxxxxxx" := by unfold MulOk; decide +kernel
section
variable {P : Program} {w : World} {K : Frag} {mg : Str → Option Value} {base : Heap}
theorem scWL : FnScope ["_law_dice_here", "_law_letters", "_law_at", "_law_signs", "_law_way", "_law_some"] ["_law_dice_here"] (defScope sWordL) := ⟨rfl, rfl, rfl, by decide +kernel, rfl, by decide +kernel, by decide +kernel⟩
theorem ok_wordL {f fR fP : Addr} {fd dR dP : FuncData} (F : Fun K "_law_word" "_law_word" sWordL f fd) (T : Blt mg) (T2 : Lr mg) (R : Kn K mg "_law_roll" sRoll fR dR ["_law_dice_here", "_law_total"]) (Pk : Kn K mg "_law_pick" sPick fP dP ["_law_dice_here", "_law_items"]) :
    FnOk P w K mg base CX0 3 f fd ["_law_dice_here"] spWordL := by
  have GR : FnOk P w K mg base CX0 1 fR dR ["_law_dice_here", "_law_total"] spRoll := ok_roll R.F T
  have GP : FnOk P w K mg base CX0 2 fP dP ["_law_dice_here", "_law_items"] spPk := ok_pk Pk.F T R.F R.g R.b
  refine F.ok scWL (fun vs H Q E h => ?_) (fun cdv A outer s H vs Q E hr h => ?_)
  · obtain ⟨d, rfl, _⟩ := h
    rfl
  · obtain ⟨d, rfl, hd, q⟩ := h
    have hr1 : Room 1 _ := hr.mono (by decide)
    refine ⟨_, pss_cons (ps_set (i := 1) scWL.nd rfl (Or.inl rfl) (pe_join pe_str (pe_lc (own := [("_law_at", 2)]) (g := gName 2) (tt := tYes) rfl scWL.nd (pi_range1 rfl T2.range (pa_cons (pe_call GR hr1 rfl R.g R.F.kp R.b .nil pass0 (pa_cons (pv 0) (pa_cons pe_int pa_nil))) pa_nil))
          (blkOk_by (N := ["_law_dice_here", "_law_letters", "_law_at", "_law_signs", "_law_way", "_law_some"]) (sc := defScope sWordL) (by decide +kernel)) (fun _ _ _ _ _ => pg_name (i := 2) scWL.nd rfl (Or.inl rfl)) (fun _ _ _ _ _ => pts_nil)
          (fun _ _ _ _ _ => pe_call GP hr rfl Pk.g Pk.F.kp Pk.b .nil pass0 (pa_cons (pv 0) (pa_cons pe_str pa_nil))))))
      (pss_cons (ps_set (i := 3) scWL.nd rfl (Or.inl rfl) pe_str)
      (pss_cons (ps_set (i := 4) scWL.nd rfl (Or.inl rfl) (pe_call GR hr1 rfl R.g R.F.kp R.b .nil pass0 (pa_cons (pv 0) (pa_cons pe_int pa_nil))))
      (pss_cons (ps_if (pt_cmpR op_eq (pv 4) pe_int (nomark _)) (pss_cons (ps_set (i := 5) scWL.nd rfl (Or.inl rfl) (pe_lst (pa_cons pe_str (pa_cons pe_str (pa_cons pe_str (pa_cons pe_str (pa_cons pe_str (pa_cons pe_str (pa_cons pe_str (pa_cons pe_str
          (pa_cons (pe_op op_mul_str pe_str pe_int) (pa_cons (pe_op op_mul_str pe_str pe_int) (pa_cons pe_str (pa_cons pe_str pa_nil))))))))))))))
          (pss_one (ps_ret (pe_call GP hr rfl Pk.g Pk.F.kp Pk.b .nil pass0 (pa_cons (pv 0) (pa_cons (pv 5) pa_nil)))))) pss_nil)
      (pss_cons (ps_if (pt_cmpR op_lt (pv 4) pe_int (nomark _)) (pss_one (ps_ret (pe_call GP hr rfl Pk.g Pk.F.kp Pk.b .nil pass0 (pa_cons (pv 0) (pa_cons (pv 3) pa_nil))))) pss_nil)
      (pss_cons (ps_if (pt_cmpR op_eq (pv 4) pe_int (nomark _)) (pss_one (ps_ret (pe_op op_add_str (pv 1) (pe_call GP hr rfl Pk.g Pk.F.kp Pk.b .nil pass0 (pa_cons (pv 0) (pa_cons (pv 3) pa_nil)))))) pss_nil)
      (pss_cons (ps_if (pt_cmpR op_lt (pv 4) pe_int (nomark _)) (pss_one (ps_ret (pe_op op_add_str (pe_call GP hr rfl Pk.g Pk.F.kp Pk.b .nil pass0 (pa_cons (pv 0) (pa_cons pe_str pa_nil)))
          (pe_slice sl_str (pv 1) po_none (po_some (pe_call GR hr1 rfl R.g R.F.kp R.b .nil pass0 (pa_cons (pv 0) (pa_cons pe_int pa_nil)))))))) pss_nil)
      (pss_cons (ps_if (pt_cmpR op_eq (pv 4) pe_int (nomark _)) (pss_one (ps_ret (pe_op op_add_str (pe_call GP hr rfl Pk.g Pk.F.kp Pk.b .nil pass0 (pa_cons (pv 0) (pa_cons (pv 3) pa_nil))) (pv 1)))) pss_nil)
      (pss_one (ps_ret (pv 1)))))))))), ?_⟩
    obtain ⟨a1, a2⟩ := alpha_len
    obtain ⟨m1, m2, m3, m4, m5, m6⟩ := mul8
    have one : ∀ c, (sgn1 c).length = 1 := fun _ => rfl
    refine ⟨⟨_, rfl⟩, _, rfl, d, _, rfl, hd, (by decide), (by decide), fun r1 H1 r0 r1' d1 b1 => ⟨_, rfl, (by omega), (by omega), fun D nD => ?_⟩⟩
    refine lc_draw (fun z => z.length = 1) (by omega) nD d1 (fun _ => rfl) ?_ ?_
    · intro x H' sb da R h
      exact ⟨_, rfl, .inr ⟨d, _, rfl, da, by rw [a1]; decide, by rw [a1]; decide, fun c H2 _ d2 b2 => h _ _ (one c) d2 (SB.but b2)⟩⟩
    · intro H2 zs s2 d2 ln ok at2
      refine ⟨Str.ofString "", D, zs, rfl, rfl, .inl (SqL.of at2), ?_, ?_⟩
      · have : ∀ ys : List Str, (∀ z ∈ ys, z.length = 1) → (ys.map (·.length)).sum = ys.length := by
          intro ys
          induction ys with
          | nil => intro _; rfl
          | cons y ys ih => 
            intro h
            simp only [List.map_cons, List.sum_cons, List.length_cons]
            rw [ih fun z hz => h z (List.mem_cons_of_mem _ hz), h y List.mem_cons_self]
            omega
        rw [this zs ok, show (Str.ofString "").length = 0 by decide +kernel]
        omega
      have lL : (Txt.join "" zs).length ≤ 9 := by
        rw [join_len0 zs ok]
        omega
      have s02 : SB d H H2 := (SB.but b1).trans s2
      generalize hL : Txt.join (Str.ofString "") zs = L at lL ⊢
      have pickS : ∀ (sg : Str) (H3 : Hp) (R : VK), 0 < sg.length ∧ sg.length < 1000 → DiceAt H3 d → (∀ (z : Str) H4, z.length = 1 → DiceAt H4 d → SB d H3 H4 → R (.str z) H4) → spPk [.ref d, .str sg] H3 R E0 := fun sg H3 R a3 d3 h =>
        .inr ⟨d, _, rfl, d3, a3.1, a3.2, fun c H4 _ d4 b4 => h _ _ (one c) d4 (SB.but b4)⟩
      refine ⟨_, rfl, d, _, rfl, d2, (by decide), (by decide), fun way H3 w0 w1 d3 b3 => ?_⟩
      have s03 : SB d H H3 := s02.trans (SB.but b3)
      refine ⟨_, rfl, rfl, _, rfl, ite2 (fun h1 => ?_) (fun h1 => ?_)⟩
      · refine ⟨_, _, rfl, rfl, m1, _, _, rfl, rfl, m2, (by show 12 ≤ sizeLine; decide), fun p hp => ?_⟩
        refine ⟨_, rfl, _, rfl, .inl ⟨d, p, _, rfl, d3.keep (same_upd hp), upd_same, d3.ne hp, (by show 0 < 12; decide), (by show 12 < 1000; decide), fun v H4 hv d4 b4 => ?_⟩⟩
        obtain ⟨z, rfl, hz⟩ : ∃ z : Str, v = .str z ∧ z.length ≤ 100 := by
          simp only [List.mem_cons, List.not_mem_nil, or_false] at hv
          rcases hv with rfl | rfl | rfl | rfl | rfl | rfl | rfl | rfl | rfl | rfl | rfl | rfl <;> exact ⟨_, rfl, by decide +kernel⟩
        exact q z H4 hz d4 ((s03.trans (SB.of (same_upd hp))).trans (SB.but b4))
      · refine ⟨_, rfl, _, _, rfl, rfl, _, rfl, ite2 (fun h2 => ?_) (fun h2 => ?_)⟩
        · exact ⟨_, rfl, _, rfl, pickS _ H3 _ (by decide +kernel) d3 fun z H4 hz d4 s4 => q z H4 (by omega) d4 (s03.trans s4)⟩
        refine ⟨_, rfl, rfl, _, rfl, ite2 (fun h3 => ?_) (fun h3 => ?_)⟩
        · refine ⟨_, rfl, _, rfl, _, rfl, pickS _ H3 _ (by decide +kernel) d3 fun z H4 hz d4 s4 => ⟨_, _, rfl, rfl, Nat.le_trans (Nat.add_le_add lL (Nat.le_of_eq hz)) (by decide), q _ H4 ?_ d4 (s03.trans s4)⟩⟩
          rw [len_app]
          omega
        refine ⟨_, rfl, _, _, rfl, rfl, _, rfl, ite2 (fun h4 => ?_) (fun h4 => ?_)⟩
        · refine ⟨_, rfl, .inr ⟨d, _, rfl, d3, by rw [a2]; decide, by rw [a2]; decide, fun c H4 _ d4 b4 => ?_⟩⟩
          refine ⟨_, rfl, _, rfl, d, _, rfl, d4, (by decide), (by decide), fun r H5 _ _ d5 b5 => ⟨r, rfl, L, rfl, Nat.le_trans lL (by decide), ?_⟩⟩
          have lc := cutS_len L none (some r)
          refine ⟨_, _, rfl, rfl, Nat.le_trans (Nat.add_le_add (Nat.le_of_eq (one c)) (Nat.le_trans lc lL)) (by decide), q _ H5 ?_ d5 ((s03.trans (SB.but b4)).trans (SB.but b5))⟩
          rw [len_app, one c]
          omega
        refine ⟨_, rfl, rfl, _, rfl, ite2 (fun h5 => ?_) (fun h5 => ?_)⟩
        · refine ⟨_, rfl, _, rfl, pickS _ H3 _ (by decide +kernel) d3 fun z H4 hz d4 s4 => ⟨_, rfl, _, _, rfl, rfl, Nat.le_trans (Nat.add_le_add (Nat.le_of_eq hz) lL) (by decide), q _ H4 ?_ d4 (s03.trans s4)⟩⟩
          rw [len_app]
          omega
        · exact ⟨_, rfl, q _ H3 (by omega) d3 s03⟩
theorem scRw : FnScope ["_law_dice_here", "_law_some", "_law_size", "_law_at"] ["_law_dice_here"] (defScope sRow) := ⟨rfl, rfl, rfl, by decide +kernel, rfl, by decide +kernel, by decide +kernel⟩
theorem ok_rowL {f fR fP : Addr} {fd dR dP : FuncData} (F : Fun K "_law_row" "_law_row" sRow f fd) (T : Blt mg) (T2 : Lr mg) (R : Kn K mg "_law_roll" sRoll fR dR ["_law_dice_here", "_law_total"]) (Pk : Kn K mg "_law_pick" sPick fP dP ["_law_dice_here", "_law_items"]) :
    FnOk P w K mg base CX0 3 f fd ["_law_dice_here"] spRowL := by
  have GP : FnOk P w K mg base CX0 2 fP dP ["_law_dice_here", "_law_items"] spPk := ok_pk Pk.F T R.F R.g R.b
  refine F.ok scRw (fun vs H Q E h => ?_) (fun cdv A outer s H vs Q E hr h => ?_)
  · obtain ⟨d, rfl, _⟩ := h
    rfl
  · obtain ⟨d, rfl, hd, q⟩ := h
    obtain ⟨m1, m2, m3, m4, m5, m6⟩ := mul8
    refine ⟨_, pss_cons (ps_set (i := 1) scRw.nd rfl (Or.inr rfl) (pe_lst (pa_cons pe_str (pa_cons pe_str (pa_cons pe_str (pa_cons pe_str (pa_cons (pe_op op_mul_str pe_str pe_int) (pa_cons pe_str (pa_cons pe_str (pa_cons pe_str (pa_cons pe_str
          (pa_cons pe_str (pa_cons pe_str (pa_cons pe_str (pa_cons pe_str pa_nil)))))))))))))))
      (pss_cons (ps_set (i := 2) scRw.nd rfl (Or.inl rfl) (pe_call GP hr rfl Pk.g Pk.F.kp Pk.b .nil pass0 (pa_cons (pv 0) (pa_cons (pe_lst (pa_cons pe_int (pa_cons pe_int (pa_cons pe_int (pa_cons pe_int (pa_cons pe_int (pa_cons pe_int
          (pa_cons pe_int (pa_cons pe_int (pa_cons pe_int pa_nil)))))))))) pa_nil))))
      (pss_one (ps_ret (pe_callTy call_tuple_of (by rfl) T2.tuple PyProof.Rows.boot_tuple (pa_cons (pe_lc (own := [("_law_at", 3)]) (g := gName 3) (tt := tYes) rfl scRw.nd (pi_range1 rfl T2.range (pa_cons (pv 2) pa_nil))
          (blkOk_by (N := ["_law_dice_here", "_law_some", "_law_size", "_law_at"]) (sc := defScope sRow) (by decide +kernel)) (fun _ _ _ _ _ => pg_name (i := 3) scRw.nd rfl (Or.inl rfl)) (fun _ _ _ _ _ => pts_nil)
          (fun _ _ _ _ _ => pe_call GP hr rfl Pk.g Pk.F.kp Pk.b .nil pass0 (pa_cons (pv 0) (pa_cons (pv 1) pa_nil)))) pa_nil))))), ?_⟩
    refine ⟨_, _, rfl, rfl, m3, (by show 13 ≤ sizeLine; decide), fun p hp => ?_⟩
    have s1 := SB.of (d := d) (same_upd (o := .lst [.str "a", .str "n", .str "if", .str "else", .str (Txt.mul "x" 8), .str "+", .str "*", .str "(", .str ")", .str "|", .str "^", .str "shift", .str "accept"]) hp)
    have np := hd.ne hp
    have d1 := hd.keep (same_upd (o := .lst [.str "a", .str "n", .str "if", .str "else", .str (Txt.mul "x" 8), .str "+", .str "*", .str "(", .str ")", .str "|", .str "^", .str "shift", .str "accept"]) hp)
    refine ⟨_, rfl, (by show 9 ≤ sizeLine; decide), fun p2 hp2 => ?_⟩
    refine .inl ⟨d, p2, _, rfl, d1.keep (same_upd hp2), upd_same, d1.ne hp2, (by show 0 < 9; decide), (by show 9 < 1000; decide), fun v H2 hv d2 b2 => ?_⟩
    have s2 := (s1.trans (SB.of (same_upd (o := .lst [.int 0, .int 1, .int 2, .int 3, .int 5, .int 9, .int 59, .int 60, .int 61]) hp2))).trans (SB.but b2)
    have at2 : H2 p = some (.lst [.str "a", .str "n", .str "if", .str "else", .str (Txt.mul "x" 8), .str "+", .str "*", .str "(", .str ")", .str "|", .str "^", .str "shift", .str "accept"]) := by
      rw [b2 p np]
      exact same_upd hp2 _ _ upd_same
    obtain ⟨n, rfl, hn⟩ : ∃ n : Nat, v = .int (n : Nat) ∧ n ≤ 61 := by
      simp only [List.mem_cons, List.not_mem_nil, or_false] at hv
      rcases hv with rfl | rfl | rfl | rfl | rfl | rfl | rfl | rfl | rfl
      · exact ⟨0, rfl, by decide⟩
      · exact ⟨1, rfl, by decide⟩
      · exact ⟨2, rfl, by decide⟩
      · exact ⟨3, rfl, by decide⟩
      · exact ⟨5, rfl, by decide⟩
      · exact ⟨9, rfl, by decide⟩
      · exact ⟨59, rfl, by decide⟩
      · exact ⟨60, rfl, by decide⟩
      · exact ⟨61, rfl, by decide⟩
    refine ⟨_, rfl, _, rfl, (by omega), (by omega), fun D nD => ?_⟩
    refine lc_draw (fun z => isTerm z.cps.toList = true) (by omega) nD d2 (fun _ => rfl) ?_ ?_
    · intro x H' sb da R h
      refine ⟨_, rfl, _, rfl, .inl ⟨d, p, _, rfl, da, sb _ _ np at2, np, (by show 0 < 13; decide), (by show 13 < 1000; decide), fun v H3 hv d3 b3 => ?_⟩⟩
      obtain ⟨z, rfl, hz⟩ : ∃ z : Str, v = .str z ∧ isTerm z.cps.toList = true := by
        simp only [List.mem_cons, List.not_mem_nil, or_false] at hv
        rcases hv with rfl | rfl | rfl | rfl | rfl | rfl | rfl | rfl | rfl | rfl | rfl | rfl | rfl <;> exact ⟨_, rfl, by decide +kernel⟩
      exact h z H3 hz d3 (SB.but b3)
    · intro H3 zs s3 d3 ln ok at3
      refine ⟨D, _, rfl, .inl ⟨SqL.of at3, fun l hl => ?_⟩⟩
      refine q l zs _ (by omega) ok upd_same ?_ (d3.keep (same_upd hl)) ((s2.trans s3).trans (SB.of (same_upd hl)))
      have nl := d3.ne hl
      cases e : H l with
      | none => rfl
      | some o =>
        have := (s2.trans s3) l o nl e
        rw [hl] at this
        cases this
end
end LQ
set_option Elab.async false
set_option linter.all false
set_option maxRecDepth 100000
set_option maxHeartbeats 4000000
namespace LQ
open PySem L2 CG CGX TL
open PySem.W (kitOne Frag Datum Tup Holds DatumOrd listLt dataLt)
def bStr (b : Bool) : Str := if b = true then "True" else "False"
theorem passF {X : Cx} : Passes (L2.CX X.prog X.w) X E0 := fun _ _ _ _ _ _ _ ⟨_, _, _, _, _, _, _, _, _, _, _, _, z⟩ => z.elim
theorem call_reprBl {X : Cx} : CallR X (.builtin "repr") (fun xs H Q => ∃ b, xs = [.bl b] ∧ Q (.str (bStr b)) H) := by
  intro pins s σ H xs us Q I r h
  obtain ⟨b, rfl, q⟩ := h
  obtain ⟨u, rfl, ru⟩ := vals1 r
  have ru' : u = Value.bool b := ru
  subst ru'
  refine PySem.P.repr_of_bool ?_
  cases b
  · exact ⟨.str _, H, I.tok _, ⟨_, rfl⟩, q⟩
  · exact ⟨.str _, H, I.tok _, ⟨_, rfl⟩, q⟩
theorem call_reprN {X : Cx} : CallR X (.builtin "repr") (fun xs H Q => xs = [.non] ∧ Q (.str "None") H) := by
  intro pins s σ H xs us Q I r h
  obtain ⟨rfl, q⟩ := h
  obtain ⟨u, rfl, ru⟩ := vals1 r
  have ru' : u = Value.none := ru
  subst ru'
  exact PySem.P.repr_of_none ⟨.str _, H, I.tok _, ⟨_, rfl⟩, q⟩
def spOrd (K : Frag) : Sp := fun vs H Q _ => ∃ (a b : Addr) (zs ws : List Str), vs = [.ref a, .ref b] ∧ SqT K H a (zs.map V.str) ∧ SqT K H b (ws.map V.str) ∧ (∀ z ∈ zs, isTerm z.cps.toList = true) ∧ (∀ z ∈ ws, isTerm z.cps.toList = true) ∧
  zs.length ≤ 60 ∧ ws.length ≤ 60 ∧ ∀ H', Same H H' → Q (.bl true) H'
theorem tx_row {K : Frag} {H : Hp} {a : Addr} {zs : List Str} (h : SqT K H a (zs.map V.str)) (t : ∀ z ∈ zs, isTerm z.cps.toList = true) (l : zs.length ≤ 20000) : Tx K H (.ref a) (some (zs.map some)) :=
  ⟨a, _, rfl, h, paired_strs zs fun p hp => by rw [len_cps]; have := (term_len (t p hp)).2; omega, by rw [List.length_map]; exact l⟩
theorem terms_row {zs : List Str} (t : ∀ z ∈ zs, isTerm z.cps.toList = true) : termsO (some (zs.map some)) = decide (zs.length ≤ 60) := by
  show (decide ((zs.map some).length ≤ 60) && (zs.map some).all (lO isTerm)) = _
  rw [List.length_map, show (zs.map some).all (lO isTerm) = true from List.all_eq_true.mpr fun o ho => by
    obtain ⟨z, hz, rfl⟩ := List.mem_map.mp ho
    exact t z hz, Bool.and_true]
theorem some_inj {zs ws : List Str} (h : some (zs.map (some (α := Str))) = some (ws.map some)) : zs = ws := by
  have := Option.some.inj h
  exact (List.map_inj_right fun _ _ e => Option.some.inj e).mp this
theorem befL_eq (zs ws : List Str) : befL zs ws = if zs.length = ws.length then listLt zs ws else decide (zs.length < ws.length) := by
  show (if ((zs.length : Nat) : Int) = ((ws.length : Nat) : Int) then listLt zs ws else decide (((zs.length : Nat) : Int) < ((ws.length : Nat) : Int))) = _
  by_cases h : zs.length = ws.length
  · rw [if_pos h, if_pos (by rw [h])]
  · rw [if_neg h, if_neg (by omega)]
    congr 1
    rw [eq_iff_iff]
    omega
theorem strs_ok (zs ws : List Str) : PySem.W.alike (Datum.toD zs) (Datum.toD ws) = true ∧ Datum.toD zs ≠ .none ∧ (Datum.toD zs).depth ≤ 60 ∧ dataLt (Datum.toD zs) (Datum.toD ws) = listLt zs ws := by
  refine ⟨DatumOrd.alike _ _, DatumOrd.notNone _, Nat.le_trans (Datum.depth_le _) (by decide), DatumOrd.lt_eq _ _⟩
section
variable {P : Program} {w : World} {K : Frag} {mg : Str → Option Value} {base : Heap} {cX : Addr}
theorem scOr : FnScope ["_law_row_here", "_law_other", "_law_due"] ["_law_row_here", "_law_other"] (defScope sOrd) := ⟨rfl, rfl, rfl, by decide +kernel, rfl, by decide +kernel, by decide +kernel⟩
theorem ok_ord {f fB : Addr} {fd dB : FuncData} (F : Fun K "_law_order_right" "_law_order_right" sOrd f fd) (T : Lw mg) (mr : mg "repr" = none) (B : Kn K mg "is_before" sBefore fB dB ["one", "other"]) (GB : FnOk P w K mg base (L2.CX P w) 5 fB dB ["one", "other"] (spBefore K cX)) :
    FnOk P w K mg base CX0 6 f fd ["_law_row_here", "_law_other"] (spOrd K) := by
  refine F.ok scOr (fun vs H Q E h => ?_) (fun cdv A outer s H vs Q E hr h => ?_)
  · obtain ⟨a, b, zs, ws, rfl, _⟩ := h
    rfl
  · obtain ⟨a, b, zs, ws, rfl, ha, hb, tz, tw, lz, lw, q⟩ := h
    refine ⟨_, pss_cons (ps_set (i := 2) scOr.nd rfl (Or.inl rfl) (pe_or (pe_cmpR op_lt (pe_callB call_len_seq (by rfl) T.len PySem.boot_len (pa_cons (pv 0) pa_nil)) (pe_callB call_len_seq (by rfl) T.len PySem.boot_len (pa_cons (pv 1) pa_nil)) (nomark _))
        (pe_one (pe_and (pe_cmpR op_eq (pe_callB call_len_seq (by rfl) T.len PySem.boot_len (pa_cons (pv 0) pa_nil)) (pe_callB call_len_seq (by rfl) T.len PySem.boot_len (pa_cons (pv 1) pa_nil)) (nomark _))
          (pe_one (pe_cmpR (op_ltU hr.units) (pe_callTy call_list_of (by rfl) T.list PyProof.Rows.boot_list (pa_cons (pv 0) pa_nil)) (pe_callTy call_list_of (by rfl) T.list PyProof.Rows.boot_list (pa_cons (pv 1) pa_nil)) (nomark _)))))))
      (pss_one (ps_ret (pe_cmpR op_eq (pe_callB call_reprBl (by rfl) mr PyProof.Rows.boot_repr (pa_cons (pe_call GB hr rfl B.g B.F.kp B.b .nil passF (pa_cons (pv 0) (pa_cons (pv 1) pa_nil))) pa_nil))
        (pe_callB call_reprBl (by rfl) mr PyProof.Rows.boot_repr (pa_cons (pv 2) pa_nil)) (nomark _)))), ?_⟩
    have fin : ∀ (b0 : Bool) H1, Same H H1 → b0 = befL zs ws → tRet (tOp rEq (tCB (fun xs H Q => ∃ b, xs = [.bl b] ∧ Q (.str (bStr b)) H) (tCons (tCall (spBefore K cX) [] E0 (tCons (tVar 0) (tCons (tVar 1) tNil))) tNil))
        (tCB (fun xs H Q => ∃ b, xs = [.bl b] ∧ Q (.str (bStr b)) H) (tCons (tVar 2) tNil))) { nx := fun _ H' => Q .non H', rt := Q } [some (.ref a), some (.ref b), some (.bl b0)] H1 := by
      rintro b0 H1 s1 rfl
      refine ⟨_, rfl, _, rfl, _, _, _, _, rfl, tx_row (sqT_same s1 ha) tz (by omega), tx_row (sqT_same s1 hb) tw (by omega), fun zs' ws' e1 e2 _ H2 s2 => ?_, fun e => ?_⟩
      · obtain rfl := some_inj e1
        obtain rfl := some_inj e2
        refine ⟨_, rfl, _, rfl, _, rfl, rfl, ?_⟩
        rw [decide_eq_true rfl]
        exact q H2 (s1.trans s2)
      · rw [terms_row tz, terms_row tw, decide_eq_true lz, decide_eq_true lw] at e
        exact Bool.noConfusion e
    rw [befL_eq] at fin
    refine ⟨_, rfl, a, _, rfl, .inr ha, _, rfl, b, _, rfl, .inr hb, _, _, rfl, rfl, _, rfl, ite2 (fun h1 => ?_) (fun h1 => ?_)⟩
    · have g1 := of_decide_eq_true h1
      rw [List.length_map, List.length_map] at g1
      refine fin _ H (Same.rfl' H) ?_
      rw [if_neg (by omega), decide_eq_true (by omega)]
    · have g1 := mt decide_eq_true h1
      rw [List.length_map, List.length_map] at g1
      refine ⟨_, rfl, a, _, rfl, .inr ha, _, rfl, b, _, rfl, .inr hb, rfl, _, rfl, ite2 (fun h2 => ?_) (fun h2 => ?_)⟩
      · have g2 : V.int (((zs.map V.str).length : Nat) : Int) = V.int (((ws.map V.str).length : Nat) : Int) := of_decide_eq_true h2
        rw [List.length_map, List.length_map] at g2
        have g3 : zs.length = ws.length := by
          injection g2 with g2
          omega
        refine ⟨_, rfl, a, _, rfl, .inr ha, fun p1 h1' => ⟨_, rfl, b, _, rfl, .inr (sqT_same (same_upd h1') hb), fun p2 h2' => ?_⟩⟩
        obtain ⟨k1, k2, k3, k4⟩ := strs_ok zs ws
        refine ⟨_, _, .lst (SqL.of ((same_upd h2') _ _ upd_same)) (dp_strs zs), .lst (SqL.of upd_same) (dp_strs ws), k1, k2, k3, ?_⟩
        rw [show dataLt (PyData.list (zs.map Datum.toD)) (PyData.list (ws.map Datum.toD)) = listLt zs ws from k4]
        refine fin _ _ ((same_upd h1').trans (same_upd h2')) ?_
        rw [if_pos g3]
      · have g2 : zs.length ≠ ws.length := fun hh => h2 (decide_eq_true (by rw [List.length_map, List.length_map, hh]))
        refine fin _ H (Same.rfl' H) ?_
        rw [if_neg g2]
        exact (decide_eq_false (by omega)).symm
end
end LQ
set_option Elab.async false
set_option linter.all false
set_option maxRecDepth 100000
set_option maxHeartbeats 4000000
namespace LQ
open PySem PySem.Spec PyProof.Rows L2 CG CGX
open PySem.W (kitOne Frag)
/-! ### try: body, except x1: suite, except x2 as n: suite -/
/-- what the two clauses wish of an exception of the body; slot i is the name's, m the number of slots -/
def wTwo (K : Frag) (c1 : Value) (t1 : Addr → Value → Option Addr → TS) (c2 : Value) (i m : Nat) (t2 : Addr → Value → Option Addr → TS) (Wout : WX) (D : Ends) : WX := fun cls d σ H =>
  ∃ b, PySem.W.exmOne K cls c1 = some b ∧ (b = true → ∀ a, H a = none → t1 a cls d D σ H) ∧
    (b = false → ∃ b2, PySem.W.exmOne K cls c2 = some b2 ∧ (b2 = true → ∀ a, H a = none → σ.length = m →
      t2 a cls d { nx := fun σ' H' => D.nx (σ'.set i none) H', rt := D.rt, bk := fun σ' H' => D.bk (σ'.set i none) H', ct := fun σ' H' => D.ct (σ'.set i none) H' } (σ.set i (some (.ref a))) H) ∧ (b2 = false → Wout cls d σ H))
section
variable {X : Cx} {x1 x2 n : Str} {c1 c2 : Value} {i : Nat} {body s1 s2 : List Stmt} {b1 b2 : Stmt} {n1 n2 p1 p2 pos : Pos} {tb : WX → TS} {t1 t2 : Addr → Value → Option Addr → TS} {Wout : WX}
/-- the name in a clause is found -/
theorem name_looks {X : Cx} {x : Str} {c : Value} {np : Pos} {a : Addr} {oe : Obj} {pins : List (Addr × Obj)} {σ : L2.St} {H : Hp} {s : Shared} (hc : Names X x c) (S : Inv (X.suite a ((a, oe) :: (X.pn ++ pins))) [] σ H s) {Q E : Value → Shared → Prop} (q : Q c s) :
    wpAny (model X.prog X.w) (X.A.mark (some (.ref a))) (eval (.Name x np) X.env) Q E s := by
  obtain ⟨hg, hdbg, hm | ⟨hm, hv, hnn⟩⟩ := hc
  · exact ld_glob (X := X.suite a ((a, oe) :: (X.pn ++ pins))) S hg hm q hdbg
  · exact ld_blt (X := X.suite a ((a, oe) :: (X.pn ++ pins))) S hg hm hv q hnn hdbg
theorem ps_try_two (hs : X.stack = X.env :: X.outer) (hf : X.env.frame = some X.env.locals) (hN : X.N.Nodup) (hi : X.N[i]? = some n) (hln : X.env.kindOf n = some .local) (hc1 : Names X x1 c1) (hc2 : Names X x2 c2) (tk : Takes X Wout)
    (hb : ∀ (W : WX) (pn : List (Addr × Obj)) (xe : Value → Shared → Prop), Takes (X.tr pn xe) W → PassesOwn (model X.prog X.w) X.A X.env xe → PSs (X.tr pn xe) body (tb W))
    (h1 : ∀ (a : Addr) (oe : Obj) (cls : Value) (d : Option Addr) (pn : List (Addr × Obj)), Zc cls d oe → (∃ vs, oe.data = .fields vs) → PSs (X.suite a ((a, oe) :: pn)) (b1 :: s1) (t1 a cls d))
    (h2 : ∀ (a : Addr) (oe : Obj) (cls : Value) (d : Option Addr) (pn : List (Addr × Obj)), Zc cls d oe → (∃ vs, oe.data = .fields vs) → PSs (X.suite a ((a, oe) :: pn)) (b2 :: s2) (t2 a cls d)) :
    PS X (.Try body [.ExceptHandler (some (.Name x1 n1)) none (b1 :: s1) p1, .ExceptHandler (some (.Name x2 n2)) (some n) (b2 :: s2) p2] [] [] pos) (fun D σ H => tb (wTwo X.K c1 t1 c2 i X.N.length t2 Wout D) D σ H) := by
  constructor
  intro pins s σ H D I h
  have ok := I.ok
  have frames : X.A.frames = some (X.env :: X.outer) := ok.frames.trans (by rw [hs])
  refine wpAny_Try_except (wpAny_mono ((hb (wTwo X.K c1 t1 c2 i X.N.length t2 Wout D) (X.pn ++ pins) _ (fun u s' up => ?caught) PassesOwn.looking).run [] s σ H D (I.toTry _) h) (fun f z through => ?through) fun _ _ q => q)
  case through =>
    cases f with
    | ret u =>
      obtain ⟨v, τ, G, J, r, q⟩ := through
      exact ⟨v, τ, G, J.ofTry ok, r, q⟩
    | next =>
      obtain ⟨τ, G, J, q⟩ := through
      exact wpAny_execs_nil ⟨τ, G, J.ofTry ok, q⟩
    | brk =>
      obtain ⟨τ, G, J, q⟩ := through
      exact ⟨τ, G, J.ofTry ok, q⟩
    | cont =>
      obtain ⟨τ, G, J, q⟩ := through
      exact ⟨τ, G, J.ofTry ok, q⟩
  case caught =>
    obtain ⟨a, B, sI, ps, τ, G, cls, d, rfl, J0, kept, slots, sky, gone, os, bare, want⟩ := up
    have J : Inv X pins τ G sI := J0.ofTry ok
    refine Sky.land Zc.steady frames hf (hs ▸ sky) fun g fl gs => ?_
    have Jg : Inv X pins τ G { s' with heap := g } := J.landed kept fl.1 (slots.trans gs) os bare
    obtain ⟨oe, vs, at_, zc, dat⟩ := fl.there
    have apart : a ∉ frs (X.env :: X.outer) := fun m => by
      obtain ⟨_, o', e', nf⟩ := fl.2.2.1.mem m
      rw [at_] at e'
      cases e'
      exact nf _ dat
    have aL : a ≠ X.env.locals := fun z => apart (List.mem_filterMap.mpr ⟨X.env, List.mem_cons_self, by rw [hf, z]⟩)
    have aF : a ∉ X.fs := fun m => by
      obtain ⟨e, he, q⟩ := List.mem_filterMap.mp m
      exact apart (List.mem_filterMap.mpr ⟨e, List.mem_cons_of_mem _ he, q⟩)
    have Sg := Jg.suite at_ dat gone aL aF
    have type_ : PySem.W.Looks (model X.prog X.w) g (typeOf (.ref a)) cls := fun A Q E s k q => wpAny_typeOf_ref (k _ _ at_) (by rw [zc.1]; exact q)
    obtain ⟨b, e1, yes, no⟩ := want
    refine wpAny_handleBy_cons (codeAny_handlers_test (name_looks hc1 Sg ((PySem.W.exm_one (M := model X.prog X.w) Jg.kIn type_ e1).here ?_))) (by intro q; cases q)
    cases b with
    | true =>
      refine codeAny_handlers_suite (HandSPX.lands_againZ fl fun g4 fl4 gs4 => ?_)
      obtain ⟨o4, v4, at4, zc4, dat4⟩ := fl4.there
      have J4 : Inv X pins τ G { s' with heap := g4 } := J.landed kept fl4.1 ((slots.trans gs).trans gs4) os bare
      have S4 := J4.suite at4 dat4 gone aL aF
      refine wpAny_mono ((h1 a o4 cls d (X.pn ++ pins) zc4 ⟨_, dat4⟩).run [] _ _ G _ S4 (yes rfl a gone)) (fun f z hz => ?_) (fun _ _ q => False.elim q)
      cases f with
      | ret u =>
        obtain ⟨v, τ', G', S, r, q⟩ := hz
        exact ⟨v, τ', G', S.unsuite ok, r, q⟩
      | next =>
        obtain ⟨τ', G', S, q⟩ := hz
        exact ⟨τ', G', S.unsuite ok, q⟩
      | brk =>
        obtain ⟨τ', G', S, q⟩ := hz
        exact ⟨τ', G', S.unsuite ok, q⟩
      | cont =>
        obtain ⟨τ', G', S, q⟩ := hz
        exact ⟨τ', G', S.unsuite ok, q⟩
    | false =>
      obtain ⟨b', e2, yes2, no2⟩ := no rfl
      show wpAny _ X.A (handleBy (.ref a) X.env [.ExceptHandler (some (.Name x2 n2)) (some n) (b2 :: s2) p2]) _ _ _
      refine wpAny_handleBy_cons (codeAny_handlers_test (name_looks hc2 Sg ((PySem.W.exm_one (M := model X.prog X.w) Jg.kIn type_ e2).here ?_))) (by intro q; cases q)
      cases b' with
      | true =>
        refine codeAny_handlers_suite_as (HandSPX.lands_againZ fl fun g4 fl4 gs4 => ?_)
        obtain ⟨o4, v4, at4, zc4, dat4⟩ := fl4.there
        have J4 : Inv X pins τ G { s' with heap := g4 } := J.landed kept fl4.1 ((slots.trans gs).trans gs4) os bare
        have S4 := J4.suite at4 dat4 gone aL aF
        refine store_ok (X := X.suite a ((a, o4) :: (X.pn ++ pins))) (v := .ref a) S4 hN hi (.inl hln) rfl (fun s5 S5 => ?_) (.inr hln)
        refine wpAny_mono ((h2 a o4 cls d (X.pn ++ pins) zc4 ⟨_, dat4⟩).run [] s5 _ G _ S5 (yes2 rfl a gone J.len)) (fun f z hz => ?_) (fun _ _ q => False.elim q)
        have leave : ∀ {τ' : L2.St} {G' : Hp} {Q : Shared → Prop}, Inv (X.suite a ((a, o4) :: (X.pn ++ pins))) [] τ' G' z → (∀ s7, Inv X pins (τ'.set i none) G' s7 → Q s7) →
            wpAny (model X.prog X.w) X.A (do bindName X.env n .none; unbindBehindTheSuite X.env n p2) (fun _ s7 => Q s7) X.xe z := fun S q => gone_ok (S.unsuite ok) hN hi hln q
        cases f with
        | ret u =>
          obtain ⟨v, τ', G', S, r, q⟩ := hz
          exact leave S fun s7 J7 => ⟨_, _, _, J7, r, q⟩
        | next =>
          obtain ⟨τ', G', S, q⟩ := hz
          exact leave S fun s7 J7 => ⟨_, _, J7, q⟩
        | brk =>
          obtain ⟨τ', G', S, q⟩ := hz
          exact leave S fun s7 J7 => ⟨_, _, J7, q⟩
        | cont =>
          obtain ⟨τ', G', S, q⟩ := hz
          exact leave S fun s7 J7 => ⟨_, _, J7, q⟩
      | false =>
        show wpAny _ X.A (handleBy (.ref a) X.env []) _ _ _
        refine wpAny_handleBy_nil ?_
        obtain ⟨_, _, _, o, vs', T, oT, ts, at5, zc5, dat5, v1, _⟩ := id fl
        unfold PySem.passOn
        refine wpAny_bind (wpAny_field at5 dat5 v1 ?_)
        rw [if_neg (show ¬ ((Value.ref T == Value.none) = true) from by simp)]
        have on : wpAny (model X.prog X.w) X.A (setFlight (.ref a) X.env.frame) (fun _ s4 => wpAny (model X.prog X.w) X.A (throw (.ref a) : Sem Flow) (SP X pins D) X.xe s4) X.xe { s' with heap := g } := by
          rw [hf]
          exact HandSPX.setFlight_upZ fl fun g5 held gs5 => wpAny_throw (tk _ _ ⟨a, B, sI, pins, τ, G, cls, d, rfl, J, kept, (slots.trans gs).trans gs5, .inr (.inr (by rw [hs]; exact held)), gone, os, bare, no2 rfl⟩)
        first
          | exact wpAny_bind (wpAny_pure (wpAny_bind on))
          | exact wpAny_bind on
end
end LQ
set_option Elab.async false
set_option linter.all false
set_option maxRecDepth 100000
set_option maxHeartbeats 4000000
namespace LQ
open PySem PySem.Spec PyProof.Rows L2 CG CGX LamX
open PySem.W (kitOne Frag exmOne findIn)
/-- what _law_error makes of the lambda's reading -/
def TErr (cX cP : Addr) : (XK → Hp → VK → Prop) → Hp → VK → Prop := fun tl H Q =>
  tl (fun cls d H' => (cls = .ref cX ∧ Q (.str "text") H') ∨ (cls = .ref cP ∧ ∃ dd, d = some dd ∧ H' dd = some (.xd [("line", .non)]) ∧ Q (.str "parse None") H')) H fun _ H' => Q (.str "none") H'
structure Ex (K : Frag) (mg : Str → Option Value) (cX cP : Addr) : Prop where
  gX : mg "InvalidText" = some (.ref cX)
  gP : mg "ParseError" = some (.ref cP)
  xx : exmOne K (.ref cX) (.ref cX) = some true
  px : exmOne K (.ref cP) (.ref cX) = some false
  pp : exmOne K (.ref cP) (.ref cP) = some true
  xf : XfC K cP
  no : findIn K (.ref cP) "line" = some none
  repr : mg "repr" = none
abbrev NE : List Str := ["_law_call", "error"]
theorem scE : FnScope NE ["_law_call"] (defScope sErr) := ⟨rfl, rfl, rfl, by decide +kernel, rfl, by decide +kernel, by decide +kernel⟩
theorem err_gives {X : Cx} {g cX cP : Addr} {cdg : Value} {q : Str} (T : Ex X.K X.mg cX cP) : GivesTo X NE "_law_error" (defScope sErr) g cdg (defBody sErr) "_law_call" q (TErr cX cP) := by
  intro f c' s H Q tl act hc h
  refine ⟨_, pss_cons (ps_try_two (X := (cxOf C8.CX0 X.prog X.w X.K X.mg X.base NE "_law_error" (defScope sErr) g cdg X.A X.stack s H C8.E0).nox) (c1 := .ref cX) (c2 := .ref cP) (i := 1)
      (tb := fun W D σ H => ∃ Ech : XK, (∀ cls d σ' H', Ech cls d H' → W cls d σ' H') ∧ σ[0]? = some (some (.ref f)) ∧ H c' = some (CodeO c' q) ∧ tl Ech H (fun _ H' => D.nx σ H'))
      rfl rfl scE.nd rfl rfl ⟨rfl, by decide, .inl T.gX⟩ ⟨rfl, by decide, .inl T.gP⟩ L2.takes0 (fun W pn xe tk _ => ?_) (fun a oe cls d pn _ _ => pss_one (ps_ret pe_str))
      (fun a oe cls d pn hz hf => pss_one (ps_ret (pe_op op_add_str pe_str (pe_callB call_reprN (by rfl) T.repr PyProof.Rows.boot_repr (pa_cons (pe_xf T.xf T.no hz hf (pv 1)) pa_nil))))))
    (pss_one (ps_ret pe_str)), ?_⟩
  · refine ⟨fun pins s' σ H' D I h' => ?_⟩
    obtain ⟨Ech, hW, h1, h2, h3⟩ := h'
    exact (pss_one (ps_expr (act W pn xe Ech _ _ tk hW))).run pins s' σ H' D I ⟨h1, h2, h3⟩
  · refine ⟨_, fun cls d σ' H' hh => ?_, rfl, hc, h⟩
    rcases hh with ⟨rfl, q1⟩ | ⟨rfl, dd, rfl, q2, q3⟩
    · exact ⟨true, T.xx, fun _ a _ => q1, fun z => Bool.noConfusion z⟩
    · refine ⟨false, T.px, fun z => Bool.noConfusion z, fun _ => ⟨true, T.pp, fun _ a _ hl => ?_, fun z => Bool.noConfusion z⟩⟩
      have e1 : (σ'.set 1 (some (V.ref a)))[1]? = some (some (V.ref a)) := List.getElem?_set_self (by rw [hl]; exact (by decide : 1 < NE.length))
      refine ⟨_, e1, rfl, rfl, dd, _, _, rfl, q2, rfl, rfl, _, _, rfl, rfl, by decide +kernel, ?_⟩
      rw [show (Str.ofString "parse ") ++ (Str.ofString "None") = Str.ofString "parse None" by decide +kernel]
      exact q3
end LQ
set_option Elab.async false
set_option linter.all false
set_option maxRecDepth 100000
set_option maxHeartbeats 4000000
namespace LQ
open PySem PySem.Spec PyProof.Rows L2 CG CGX LamX
open PySem.W (kitOne Frag exmOne findIn keepIn codeIn)
/-! ### frames: the dice and the tables aside -/
def EB (d : Addr) (H H' : Hp) : Prop := ∀ b o, b ≠ d → (∀ ps, o ≠ .tbl ps) → H b = some o → H' b = some o
theorem EB.refl {d : Addr} {H : Hp} : EB d H H := fun _ _ _ _ e => e
theorem EB.trans {d : Addr} {H H1 H2 : Hp} (a : EB d H H1) (b : EB d H1 H2) : EB d H H2 := fun c o n t e => b c o n t (a c o n t e)
theorem EB.same {d : Addr} {H H' : Hp} (s : Same H H') : EB d H H' := fun b o _ _ e => s b o e
theorem EB.sb {d : Addr} {H H' : Hp} (s : SB d H H') : EB d H H' := fun b o n _ e => s b o n e
theorem EB.ext {d : Addr} {H H' : Hp} (s : ExtN H H') : EB d H H' := fun b o _ t e => s b o e t
theorem tabs_sb {T : List (Addr × Str)} {d : Addr} {H H' : Hp} (hd : DiceAt H d) (t : Tabs T H) (s : SB d H H') : Tabs T H' := fun p hp => by
  obtain ⟨a, b, c, e⟩ := hd
  obtain ⟨ps, h1, h2, h3⟩ := t p hp
  have n1 : p.1 ≠ d := fun z => by rw [z, e] at h1; cases h1
  refine ⟨ps, s _ _ n1 h1, h2, fun pos cv hc => ?_⟩
  obtain ⟨x, e1, e2⟩ := h3 pos cv hc
  refine ⟨x, e1, s _ _ (fun z => ?_) e2⟩
  rw [z, e] at e2
  unfold CodeO at e2
  cases e2
theorem dice_ext {d : Addr} {H H' : Hp} (h : DiceAt H d) (s : ExtN H H') : DiceAt H' d := by
  obtain ⟨a, b, c, e⟩ := h
  exact ⟨a, b, c, s _ _ e fun ps z => by cases z⟩
theorem sqT_eb {K : Frag} {d : Addr} {H H' : Hp} {a : Addr} {xs : List V} (hd : DiceAt H d) (s : EB d H H') (h : SqT K H a xs) : SqT K H' a xs := by
  obtain ⟨x, y, z, e⟩ := hd
  rcases h with (h | ⟨o, h⟩) | h
  · exact .inl (.inl (s _ _ (fun q => by rw [q, e] at h; cases h) (fun ps q => by cases q) h))
  · exact .inl (.inr ⟨o, s _ _ (fun q => by rw [q, e] at h; cases h) (fun ps q => by cases q) h⟩)
  · exact .inr h
theorem sqT_ext {K : Frag} {H H' : Hp} {a : Addr} {xs : List V} (s : ExtN H H') (h : SqT K H a xs) : SqT K H' a xs := by
  rcases h with (h | ⟨o, h⟩) | h
  · exact .inl (.inl (s _ _ h fun ps q => by cases q))
  · exact .inl (.inr ⟨o, s _ _ h fun ps q => by cases q⟩)
  · exact .inr h
/-! ### a def whose code object is known -/
structure FunC (K : Frag) (x qual : Str) (st : Stmt) (f : Addr) (fd : FuncData) (c : Addr) : Prop where
  ex : ∃ (oc : Value) (od : Option Addr) (kV doc pm : Value) (an : Option Addr) (ct : Value) (osl : Array (Option Value)), fd = PySem.W.fnOf x qual (defArgs st) (defBody st) (defScope st) .none kV doc pm an (.ref c) ct ∧
    K.lookup f = some ⟨oc, od, .func fd, osl⟩ ∧ codeIn K (.ref c) qual = true
  kp : keepIn K (.ref f) = true
section
variable {P : Program} {w : World} {K : PySem.W.Frag} {mg : Str → Option Value} {base : Heap} {CX : CXT} {k : Nat} {f c : Addr} {fd : FuncData} {ps N : List Str} {sp : Sp}
theorem fnC_of {x qual : Str} {st : Stmt} (F : FunC K x qual st f fd c) (S : FnScope N ps (defScope st)) (len : ∀ vs H Q E, sp vs H Q E → vs.length = ps.length)
    (body : ∀ (A : Around) (outer : List Env) (s : Shared) (H : Hp) (vs : List V) (Q : VK) (E : XK), Room k (A.deeper (envOfC qual (defScope st) s.heap.objs.size f (.ref c))) → A.guards = some [] → sp vs H Q E →
      ∃ t, PSs (cxOf CX P w K mg base N qual (defScope st) f (.ref c) A outer s H E) (defBody st) t ∧ t { nx := fun _ H' => Q .non H', rt := Q } (start N vs) H) :
    FnG P w K mg base CX (k + 1) f fd ps sp := by
  obtain ⟨oc, od, kV, doc, pm, an, ct, osl, rfl, lk, hcd⟩ := F.ex
  constructor
  · exact len
  intro A outer s H args us vs Q E room gd env bnd rel want
  have old := fun b o e => (env.bs b o e).1
  have kin : K.In s.heap := env.mod.kin.keeps old
  have free : s.heap.NoLimit := env.mod.nolimit.keeps old
  refine codeAny_call_function room.depth (kin _ _ lk) rfl S.co S.gen rfl (PySem.W.codeRec_of kin hcd) (bnd _ _ _ _ ?_)
  refine wpAny_newFunctionEnv_cells S.kind ?_ ?_
  · rintro ⟨n, v⟩ hm
    cases S.par n (List.of_mem_zip hm).1 with
    | inl z => exact .inl z
    | inr z => exact .inr ⟨z, PySem.W.cellsFrom_some _ _ _ (.inl z)⟩
  · intro en hen s1 C
    subst hen
    refine ⟨free.keeps C.toInCall.keep, codeAny_func ?_⟩
    obtain ⟨t, walk, start0⟩ := body A outer s H vs Q E (room.deeper _) gd want
    have I0 := inv_start (CX := CX) (E := E) S room.hd env (len _ _ _ _ want) rel C
    refine wpAny_mono (walk.run [] s1 _ H _ I0 start0) ?_ (fun _ _ z => z)
    intro fl s' z
    cases fl with
    | next =>
      obtain ⟨σ2, H2, J, q⟩ := z
      exact ⟨.non, H2, J.os, J.bare, J.base, J.hok, rfl, q⟩
    | ret u =>
      obtain ⟨v, σ2, H2, J, rv, q⟩ := z
      exact ⟨v, H2, J.os, J.bare, J.base, J.hok, rv, q⟩
    | brk => exact z.elim fun _ z => z.elim fun _ z => z.2.elim
    | cont => exact z.elim fun _ z => z.elim fun _ z => z.2.elim
end
end LQ
set_option Elab.async false
set_option linter.all false
set_option maxRecDepth 100000
set_option maxHeartbeats 4000000
namespace LQ
open PySem PySem.Spec PyProof.Rows L2 CG CGX LamX
open PySem.W (kitOne Frag exmOne findIn keepIn codeIn Datum)
/-! ### what the law's defs call -/
def Has (K : Frag) (mg : Str → Option Value) (n : Str) (ps : List Str) (Ok : Addr → FuncData → Prop) : Prop := ∃ f fd, Ok f fd ∧ mg n = some (.ref f) ∧ keepIn K (.ref f) = true ∧ L2.Binds K fd ps []
structure Lib (P : Program) (w : World) (K : Frag) (mg : Str → Option Value) (base : Heap) (cX cP : Addr) : Prop where
  lw : Lw mg
  lr : Lr mg
  bl : Blt mg
  ex : Ex K mg cX cP
  roll : Has K mg "_law_roll" ["_law_dice_here", "_law_total"] fun f fd => FnOk P w K mg base CX0 1 f fd ["_law_dice_here", "_law_total"] spRoll
  pick : Has K mg "_law_pick" ["_law_dice_here", "_law_items"] fun f fd => FnOk P w K mg base CX0 2 f fd ["_law_dice_here", "_law_items"] spPk
  word : Has K mg "_law_word" ["_law_dice_here"] fun f fd => FnOk P w K mg base CX0 3 f fd ["_law_dice_here"] spWordL
  row : Has K mg "_law_row" ["_law_dice_here"] fun f fd => FnOk P w K mg base CX0 3 f fd ["_law_dice_here"] spRowL
  istold : Has K mg "_law_is_told_terminal" ["_law_value"] fun f fd => FnOk P w K mg base CX0 2 f fd ["_law_value"] (spO K isTerm)
  told : Has K mg "_law_told" ["_law_value"] fun f fd => FnOk P w K mg base CX0 3 f fd ["_law_value"] (spTold K)
  ord : Has K mg "_law_order_right" ["_law_row_here", "_law_other"] fun f fd => FnOk P w K mg base CX0 6 f fd ["_law_row_here", "_law_other"] (spOrd K)
  term : Has K mg "is_terminal" ["value"] fun f fd => FnOk P w K mg base CX0 3 f fd ["value"] (spO K isTerm)
  nont : Has K mg "is_nonterminal" ["value"] fun f fd => FnOk P w K mg base CX0 2 f fd ["value"] (spO K isNont)
  name : Has K mg "is_name" ["value"] fun f fd => FnOk P w K mg base CX0 3 f fd ["value"] (spO K isName)
  terms : Has K mg "is_terminals" ["value"] fun f fd => FnOk P w K mg base CX0 4 f fd ["value"] (spTs K)
  before : Has K mg "is_before" ["one", "other"] fun f fd => FnOk P w K mg base (L2.CX P w) 5 f fd ["one", "other"] (spBefore K cX)
  write : Has K mg "write_terminals" ["text"] fun f fd => FnOk P w K mg base (L2.CX P w) 5 f fd ["text"] (spWrite K cX)
  read : Has K mg "read_terminals" ["line"] fun f fd => FnOk P w K mg base (L2.CX P w) 5 f fd ["line"] (spRead K cP)
  err : ∃ (g : Addr) (oc : Value) (od : Option Addr) (kV doc pm : Value) (an : Option Addr) (cdv ct : Value) (osl : Array (Option Value)), mg "_law_error" = some (.ref g) ∧ keepIn K (.ref g) = true ∧
    K.lookup g = some ⟨oc, od, .func (PySem.W.fnOf "_law_error" "_law_error" (defArgs sErr) (defBody sErr) (defScope sErr) .none kV doc pm an cdv ct), osl⟩ ∧ codeIn K cdv "_law_error" = true ∧
    L2.Binds K (PySem.W.fnOf "_law_error" "_law_error" (defArgs sErr) (defBody sErr) (defScope sErr) .none kV doc pm an cdv ct) ["_law_call"] []
/-! ### repr of a row -/
theorem shownAll_strs : ∀ zs : List Str, PyData.shownAll (zs.map Datum.toD) = zs.map reprText
  | [] => rfl
  | z :: zs => by
    show reprText z :: PyData.shownAll (zs.map Datum.toD) = _
    rw [shownAll_strs zs]
    rfl
theorem showAll_strs : ∀ zs : List Str, PyData.showableAll (zs.map Datum.toD) = true ∧ PyData.hasDictAll (zs.map Datum.toD) = false
  | [] => ⟨rfl, rfl⟩
  | z :: zs => by
    obtain ⟨a, b⟩ := showAll_strs zs
    exact ⟨by show (true && PyData.showableAll (zs.map Datum.toD)) = true; rw [a]; rfl, by show (false || PyData.hasDictAll (zs.map Datum.toD)) = false; rw [b]; rfl⟩
theorem term_codes {l : List Nat} (h : isTerm l = true) : ∀ c ∈ l, c < 16 ^ 8 := by
  intro c hc
  unfold isTerm at h
  rw [Bool.or_eq_true] at h
  rcases h with h | h
  · unfold isWord smallL at h
    rw [Bool.and_eq_true, List.all_eq_true] at h
    have := h.2 c hc
    unfold low at this
    have := of_decide_eq_true this
    omega
  · match l, h, hc with
    | [x], h, hc =>
      rw [List.mem_singleton.mp hc]
      have := of_decide_eq_true h
      unfold signs at this
      simp only [List.mem_cons, List.not_mem_nil, or_false] at this
      omega
theorem piled_le : ∀ (ts : List Str) (m : Nat), (∀ t ∈ ts, t.length ≤ m) → piled ts ≤ ts.length * (m + 2)
  | [], _, _ => Nat.zero_le _
  | t :: ts, m, h => by
    have a := piled_le ts m fun x hx => h x (List.mem_cons_of_mem _ hx)
    have b := h t List.mem_cons_self
    have e : piled (t :: ts) = t.length + 2 + piled ts := by simp [piled]
    rw [e, List.length_cons, Nat.succ_mul]
    omega
theorem shown_row {zs : List Str} (t : ∀ z ∈ zs, isTerm z.cps.toList = true) (l : zs.length ≤ 61) : (PyData.tuple (zs.map Datum.toD)).showable = true ∧ (PyData.tuple (zs.map Datum.toD)).depth ≤ 2 ∧ (PyData.tuple (zs.map Datum.toD)).shown.length ≤ sizeLine ∧ (PyData.tuple (zs.map Datum.toD)).hasDict = false := by
  obtain ⟨a, b⟩ := showAll_strs zs
  refine ⟨by show PyData.showableAll _ = true; exact a, ?_, ?_, by show PyData.hasDictAll _ = false; exact b⟩
  · have := Datum.depth_le (PySem.W.Tup.mk zs)
    exact Nat.le_trans this (by decide)
  · show (tupleText (PyData.shownAll (zs.map Datum.toD))).length ≤ sizeLine
    rw [shownAll_strs]
    have p := piled_le (zs.map reprText) 82 fun x hx => by
      obtain ⟨z, hz, rfl⟩ := List.mem_map.mp hx
      have := PySem.StrLaws.reprText_len z (term_codes (t z hz))
      have h8 := (term_len (t z hz)).2
      rw [← len_cps] at h8
      omega
    rw [List.length_map] at p
    have j : (Str.join ", " (zs.map reprText)).length ≤ piled (zs.map reprText) := by
      cases h : zs.map reprText with
      | nil => exact Nat.zero_le _
      | cons x r =>
        have := join_length_add (x :: r) (by simp)
        omega
    have e : (tupleText (zs.map reprText)).length ≤ 3 + (Str.join ", " (zs.map reprText)).length := by
      unfold tupleText
      rw [len_app, len_app]
      have h1 : (Str.ofString "(").length = 1 := by decide +kernel
      have h2 : (Str.ofString (if (zs.map reprText).length == 1 then ",)" else ")")).length ≤ 2 := by split <;> decide +kernel
      have h1' : ("(" : Str).length = 1 := h1
      omega
    have : zs.length * (82 + 2) ≤ 61 * 84 := Nat.mul_le_mul_right _ l
    have sl : 6000 ≤ sizeLine := by decide
    omega
theorem reads_row {X : Cx} {H : Hp} {p : Addr} {zs : List Str} (h : SqT X.K H p (zs.map V.str)) (nd : (PyData.tuple (zs.map Datum.toD)).hasDict = false) : ReadsAs X H (.ref p) (.tuple (zs.map Datum.toD)) := fun pins σ s u I r => by
  obtain ⟨as, q⟩ := Dp.reads I _ _ _ (.tup h (dp_strs zs)) r
  exact ⟨as, q, fun z => by rw [nd] at z; cases z⟩
end LQ
set_option Elab.async false
set_option linter.all false
set_option maxRecDepth 100000
set_option maxHeartbeats 4000000
namespace LQ
open PySem PySem.Spec PyProof.Rows L2 CG CGX LamX
open PySem.W (kitOne Frag exmOne findIn keepIn codeIn Datum)
abbrev NLn : List Str := ["_law_dice_here", "_law_row_here", "_law_line", "_law_told_here", "_law_at", "_law_bent", "_law_words", "_law_one"]
theorem scLn : FnScope NLn ["_law_dice_here", "_law_row_here"] (defScope sLines) := ⟨rfl, rfl, rfl, by decide +kernel, rfl, by decide +kernel, by decide +kernel⟩
def qLn : Str := "_law_lines_right" ++ ".<locals>." ++ "<lambda>"
abbrev XL (P : Program) (w : World) (K : Frag) (mg : Str → Option Value) (base : Heap) (f c : Addr) (A : Around) (outer : List Env) (s : Shared) (H : Hp) (E : XK) : Cx :=
  (cxOf CX0 P w K mg base NLn "_law_lines_right" (defScope sLines) f (.ref c) A outer s H E).nox
/-- a def's table among the tables -/
structure Tb (base : Heap) (mg : Str → Option Value) (T : List (Addr × Str)) (c p : Addr) (q : Str) : Prop where
  tb : TabB base mg c p
  m : (p, q) ∈ T
  u : ∀ x ∈ T, x.1 = p → x.2 = q
theorem terms_all (ws : List Str) : termsO (some (ws.map some)) = (decide (ws.length ≤ 60) && ws.all fun z => isTerm z.cps.toList) := by
  show (decide ((ws.map some).length ≤ 60) && (ws.map some).all (lO isTerm)) = _
  rw [List.length_map, List.all_map]
  rfl
theorem filt_terms (ws : List Str) : decide ((((List.range ws.length).filter fun i => !isTerm (ws.getD i "").cps.toList).map fun i => ws.getD i "") = []) = ws.all fun z => isTerm z.cps.toList := by
  rw [Bool.eq_iff_iff, decide_eq_true_eq, List.map_eq_nil_iff, List.filter_eq_nil_iff, List.all_eq_true]
  constructor
  · intro h x hx
    obtain ⟨i, hi, rfl⟩ := List.mem_iff_getElem.mp hx
    have := h i (List.mem_range.mpr hi)
    rw [List.getD_eq_getElem?_getD, List.getElem?_eq_getElem hi] at this
    simpa using this
  · intro h i hi
    have hi' := List.mem_range.mp hi
    rw [List.getD_eq_getElem?_getD, List.getElem?_eq_getElem hi']
    have := h _ (List.getElem_mem hi')
    simpa using this
section
variable {P : Program} {w : World} {K : Frag} {mg : Str → Option Value} {base : Heap} {cX cP : Addr} {T : List (Addr × Str)} {f c pT : Addr} {A : Around} {outer : List Env} {s : Shared} {H0 : Hp} {E : XK}
theorem lines_C (L : Lib P w K mg base cX cP) (B : Tb base mg T c pT qLn) (hg : A.guards = some []) (hr : Room 7 (A.deeper (envOfC "_law_lines_right" (defScope sLines) s.heap.objs.size f (.ref c)))) :
    ∃ t, PSs (XL P w K mg base f c A outer s H0 E) ((defBody sLines).drop 6) t ∧
      ∀ (D : Ends) (d pw : Addr) (Bt : Str) (x1 x2 x3 x4 x7 : Option V) (H : Hp), Bt.length ≤ 10000 → H pw = some (.lst ((wordsOf Bt).map V.str)) → DiceAt H d → Tabs T H →
        (∀ H', DiceAt H' d → Tabs T H' → EB d H H' → D.rt (.bl true) H') → t D [some (.ref d), x1, x2, x3, x4, some (.str Bt), some (.ref pw), x7] H := by
  obtain ⟨fI, dI, GI, gI, kI, bI⟩ := L.istold
  obtain ⟨fR, dR, GR, gR, kR, bR⟩ := L.read
  obtain ⟨g, oc, od, kV, doc, pm, an, cdv, ct, osl, gE, kE, lkE, cdE, bE⟩ := L.err
  have hr2 : Room 2 _ := hr.mono (by decide)
  have hr5 : Room 5 _ := hr.mono (by decide)
  refine ⟨_, pss_cons (ps_if (PW.pt (pw_and (pt_cmpR op_le (pe_callB call_len_seq (by rfl) L.lw.len PySem.boot_len (pa_cons (pv 6) pa_nil)) pe_int (nomark _))
        (pw_and1 (pt_cmpR (op_eqA hr.units (α := List Str)) (pe_lc (own := [("_law_one", 7)]) (g := gName 7) rfl scLn.nd (pi_list (pv 6))
          (blkOk_by (N := NLn) (sc := defScope sLines) (by decide +kernel)) (fun _ _ _ _ _ => pg_name (i := 7) scLn.nd rfl (Or.inl rfl))
          (fun _ _ _ _ _ => pts_one (pt_not (pt_val (pe_call GI hr2 rfl gI kI bI .nil pass0 (pa_cons (pv 7) pa_nil))))) (fun _ _ _ _ _ => pv 7)) (pe_lst pa_nil) (nomark _)))))
      (pss_one (ps_ret (pe_cmpR op_eq (pe_callB (call_repr_data hg) (by rfl) L.ex.repr PyProof.Rows.boot_repr (pa_cons (pe_call GR hr5 rfl gR kR bR .nil passF (pa_cons (pv 5) pa_nil)) pa_nil))
        (pe_callB (call_repr_data hg) (by rfl) L.ex.repr PyProof.Rows.boot_repr (pa_cons (pe_callTy call_tuple_of (by rfl) L.lr.tuple PyProof.Rows.boot_tuple (pa_cons (pv 6) pa_nil)) pa_nil)) (nomark _)))) pss_nil)
    (pss_one (ps_ret (pe_cmpR op_eq (pe_lamcall (T := T) (TT := TErr cX cP) (k := 5) (a := "_law_call") (Ng := NE) (t := fun E => tCall (spRead K cP) [] E (tCons (tVar 5) tNil)) rfl gE kE lkE cdE bE scE rfl (Or.inl rfl) (err_gives L.ex)
        B.tb rfl B.m B.u hr (lamS_by (show lamSB (defScope sLines) _ = true by decide +kernel)) rfl (fun _ _ _ _ _ => rfl)
        (fun A outer s H E f c' hrl => pe_call (E := E) GR hrl rfl gR kR bR .nil (passes_call (takes_of rfl rfl rfl rfl) fun _ _ _ _ h => h) (pa_cons (pv 5) pa_nil))) pe_str (nomark _)))), ?_⟩
  intro D d pw Bt x1 x2 x3 x4 x7 H hB hpw hd hT q
  have hw : ∀ z ∈ wordsOf Bt, z.length ≤ 10000 := fun z hz => by
    unfold wordsOf at hz
    split at hz
    · cases hz
    · exact Nat.le_trans ((split_len Bt).1 z hz) hB
  have hwl : (wordsOf Bt).length ≤ 20000 := by
    unfold wordsOf
    split
    · exact Nat.zero_le _
    · have := (split_len Bt).2
      omega
  have eR : rdO (some Bt) = if termsO (some ((wordsOf Bt).map some)) = true then some (wordsOf Bt) else none := rfl
  generalize wordsOf Bt = ws at hpw hw hwl eR
  -- the last statement
  have last : ∀ H1 x7, Same H H1 → termsO (some (ws.map some)) = false → tRet (tOp rEq (tLam T (TErr cX cP) fun E => tCall (spRead K cP) [] E (tCons (tVar 5) tNil)) (tC (.str "parse None"))) D
      [some (.ref d), x1, x2, x3, x4, some (.str Bt), some (.ref pw), x7] H1 := fun H1 x7 s1 ht => by
    rw [ht] at eR
    refine ⟨hT.ext s1, fun H2 s2 t2 => ?_⟩
    refine ⟨_, rfl, .str Bt, some Bt, rfl, ⟨rfl, hB⟩, fun ws' e => ?_, fun _ H3 dd s3 at3 => .inr ⟨rfl, dd, rfl, at3, rfl, ?_⟩⟩
    · rw [eR] at e
      cases e
    · rw [decide_eq_true rfl]
      exact q H3 ((dice_ext (hd.keep s1) s2).keep s3) (t2.ext s3) (((EB.same s1).trans (EB.ext s2)).trans (EB.same s3))
  refine ⟨_, rfl, pw, _, rfl, .inl (SqL.of hpw), _, _, rfl, rfl, _, rfl, ite2 (fun h1 => ?_) (fun h1 => ?_)⟩
  · have g1 := of_decide_eq_true h1
    rw [List.length_map] at g1
    refine ⟨_, rfl, pw, rfl, ⟨_, SqL.of hpw⟩, fun Dd nD => ?_⟩
    refine lc_gen (walk_list (xs := ws.map V.str)) (fun i => !isTerm (ws.getD i "").cps.toList) (fun i => .str (ws.getD i "")) (by rw [List.length_map]; exact line20000 hwl) nD (fun _ => rfl) (fun H' s' => s'.seq (SqL.of hpw)) ?_ ?_
    · rintro i x H' H'' hi same ⟨rfl, hx⟩
      rw [List.length_map] at hi
      have ex : x = .str (ws.getD i "") := by
        rw [List.getElem?_map, List.getElem?_eq_getElem hi] at hx
        rw [List.getD_eq_getElem?_getD, List.getElem?_eq_getElem hi]
        exact (Option.some.inj hx).symm
      subst ex
      have hz : (ws.getD i "").length ≤ 10000 := by
        rw [List.getD_eq_getElem?_getD, List.getElem?_eq_getElem hi]
        exact hw _ (List.getElem_mem hi)
      exact ⟨rfl, fun R h => ⟨_, rfl, _, some (ws.getD i ""), rfl, ⟨rfl, hz⟩, fun H4 s4 => ⟨_, rfl, h H4 s4⟩⟩, fun _ H3 s3 R h => ⟨_, rfl, h _ (Same.rfl' _)⟩⟩
    · intro H' same at'
      rw [List.length_map] at at'
      refine ⟨by decide, fun p hp => ⟨((List.range ws.length).filter fun i => !isTerm (ws.getD i "").cps.toList).map fun i => ws.getD i "", [], ?_, .lst (SqL.of upd_same) .nil, by decide, _, rfl, ?_⟩⟩
      · refine .lst (SqL.of ((same_upd hp) _ _ at')) ?_
        have := dp_strs (K := K) (H := upd H' p (.lst [])) (((List.range ws.length).filter fun i => !isTerm (ws.getD i "").cps.toList).map fun i => ws.getD i "")
        rw [List.map_map] at this
        exact this
      · have sp := same.trans (same_upd (o := .lst []) hp)
        rw [filt_terms]
        have ta := terms_all ws
        rw [decide_eq_true (by omega), Bool.true_and] at ta
        cases hall : ws.all fun z => isTerm z.cps.toList with
        | false => exact last _ _ sp (by rw [ta, hall])
        | true =>
          rw [ta, hall, if_pos rfl] at eR
          have tt : ∀ z ∈ ws, isTerm z.cps.toList = true := List.all_eq_true.mp hall
          obtain ⟨k1, k2, k3, k4⟩ := shown_row tt (by omega)
          have hu := hr.units
          have room : (XL P w K mg base f c A outer s H0 E).A.units + ((PyData.tuple (ws.map Datum.toD)).depth + 1) < cLine := by
            show (A.deeper _).units + _ < cLine
            omega
          refine iteT ?_
          refine ⟨_, rfl, .str Bt, some Bt, rfl, ⟨rfl, hB⟩, fun ws' e H3 p3 s3 at3 => ?_, fun e => ?_⟩
          · rw [eR] at e
            cases e
            refine ⟨p3, _, rfl, reads_row (SqT.of at3) k4, k1, room, k3, ?_⟩
            refine ⟨_, rfl, pw, _, rfl, .inl ⟨SqL.of (s3 _ _ (sp _ _ hpw)), fun l hl => ⟨l, _, rfl, reads_row (SqT.of upd_same) k4, k1, room, k3, rfl, ?_⟩⟩⟩
            rw [decide_eq_true rfl]
            have sa := (sp.trans s3).trans (same_upd (o := .tup (ws.map V.str)) hl)
            exact q _ (hd.keep sa) (hT.ext sa) (EB.same sa)
          · rw [eR] at e
            cases e
  · have g1 := mt decide_eq_true h1
    rw [List.length_map] at g1
    refine last H _ (Same.rfl' H) ?_
    rw [terms_all, decide_eq_false (by omega), Bool.false_and]
end
end LQ
set_option Elab.async false
set_option linter.all false
set_option maxRecDepth 100000
set_option maxHeartbeats 4000000
namespace LQ
open PySem PySem.Spec PyProof.Rows L2 CG CGX LamX
open PySem.W (kitOne Frag exmOne findIn keepIn codeIn Datum)
theorem term_free {l : List Nat} (h : isTerm l = true) : 32 ∉ l := by
  intro hc
  unfold isTerm at h
  rw [Bool.or_eq_true] at h
  rcases h with h | h
  · unfold isWord smallL at h
    rw [Bool.and_eq_true, List.all_eq_true] at h
    exact absurd (h.2 32 hc) (by decide)
  · match l, h, hc with
    | [x], h, hc =>
      rw [← List.mem_singleton.mp hc] at h
      exact absurd h (by decide)
theorem words_join {zs : List Str} (t : ∀ z ∈ zs, isTerm z.cps.toList = true) : wordsOf (Txt.join " " zs) = zs := by
  by_cases h0 : zs = []
  · subst h0
    unfold wordsOf
    rw [if_pos (by decide +kernel)]
  · have e : Txt.split (Txt.join " " zs) " " = zs := TL.split_join (s := 32) (S := []) (by decide +kernel) (by decide +kernel) h0 fun p hp => term_free (t p hp)
    unfold wordsOf
    rw [if_neg, e]
    intro hh
    rw [hh, show Txt.split "" " " = [Str.ofString ""] by decide +kernel] at e
    have := t "" (by rw [← e]; exact List.mem_singleton.mpr rfl)
    exact absurd this (by decide +kernel)
theorem join_len1 : ∀ zs : List Str, (∀ z ∈ zs, isTerm z.cps.toList = true) → (Txt.join " " zs).length ≤ 9 * zs.length := by
  intro zs h
  rw [TL.join_eq]
  have e : ∀ ys : List (List Nat), (∀ y ∈ ys, y.length ≤ 8) → (TL.joinL [32] ys).length ≤ 9 * ys.length := by
    intro ys
    induction ys with
    | nil => intro _; exact Nat.le_refl _
    | cons y ys ih =>
      intro hy
      have h1 := hy y List.mem_cons_self
      cases ys with
      | nil =>
        show y.length ≤ _
        simp only [List.length_cons, List.length_nil]
        omega
      | cons y2 r =>
        have h2 := ih fun z hz => hy z (List.mem_cons_of_mem _ hz)
        show (y ++ ([32] ++ TL.joinL [32] (y2 :: r))).length ≤ _
        rw [List.length_append, List.length_append, List.length_cons (a := y)]
        simp only [List.length_cons, List.length_nil] at h2 ⊢
        omega
  have e2 := e (zs.map TL.tl) fun y hy => by
    obtain ⟨z, hz, rfl⟩ := List.mem_map.mp hy
    exact (term_len (h z hz)).2
  rw [List.length_map] at e2
  rw [len_cps]
  have e3 := TL.tl_join (Str.ofString " ") zs
  rw [show TL.tl (Str.ofString " ") = [32] by decide +kernel] at e3
  show (TL.tl (Str.join " " zs)).length ≤ _
  rw [e3]
  exact e2
section
variable {P : Program} {w : World} {K : Frag} {mg : Str → Option Value} {base : Heap} {cX cP : Addr} {T : List (Addr × Str)} {f c pT : Addr} {A : Around} {outer : List Env} {s : Shared} {H0 : Hp} {E : XK}
theorem lines_B (L : Lib P w K mg base cX cP) (B : Tb base mg T c pT qLn) (hg : A.guards = some []) (hr : Room 7 (A.deeper (envOfC "_law_lines_right" (defScope sLines) s.heap.objs.size f (.ref c)))) :
    ∃ t, PSs (XL P w K mg base f c A outer s H0 E) ((defBody sLines).drop 3) t ∧
      ∀ (D : Ends) (d : Addr) (Ln : Str) (x1 x3 x4 x5 x6 x7 : Option V) (H : Hp), Ln.length ≤ 600 → DiceAt H d → Tabs T H →
        (∀ H', DiceAt H' d → Tabs T H' → EB d H H' → D.rt (.bl true) H') → t D [some (.ref d), x1, some (.str Ln), x3, x4, x5, x6, x7] H := by
  obtain ⟨tC', hC, qC⟩ := lines_C L B hg hr (P := P) (w := w) (f := f) (s := s) (outer := outer) (H0 := H0) (E := E)
  obtain ⟨fR, dR, GR, gR, kR, bR⟩ := L.roll
  obtain ⟨fP, dP, GP, gP, kP, bP⟩ := L.pick
  have hr1 : Room 1 _ := hr.mono (by decide)
  have hr2 : Room 2 _ := hr.mono (by decide)
  refine ⟨_, pss_cons (ps_set (i := 4) scLn.nd rfl (Or.inl rfl) (pe_call GR hr1 rfl gR kR bR .nil pass0 (pa_cons (pv 0) (pa_cons (pe_op op_add (pe_callB call_len_str (by rfl) L.lw.len PySem.boot_len (pa_cons (pv 2) pa_nil)) pe_int) pa_nil))))
    (pss_cons (ps_set (i := 5) scLn.nd rfl (Or.inr rfl) (pe_op op_add_str (pe_op op_add_str (pe_slice sl_str (pv 2) po_none (po_some (pv 4)))
        (pe_call GP hr2 rfl gP kP bP .nil pass0 (pa_cons (pv 0) (pa_cons (pe_lst (pa_cons pe_str (pa_cons pe_str (pa_cons pe_str (pa_cons pe_str (pa_cons pe_str (pa_cons pe_str (pa_cons pe_str pa_nil)))))))) pa_nil))))
        (pe_slice sl_str (pv 2) (po_some (pe_op op_add (pv 4) (pe_call GR hr1 rfl gR kR bR .nil pass0 (pa_cons (pv 0) (pa_cons pe_int pa_nil))))) po_none)))
    (pss_cons (ps_set (i := 6) scLn.nd rfl (Or.inl rfl) (pe_ifExp (pt_cmpR op_eq (pv 5) pe_str (nomark _)) (pe_lst pa_nil) (pe_split (pv 5) pe_str))) hC)), ?_⟩
  intro D d Ln x1 x3 x4 x5 x6 x7 H hl hd hT q
  have sl : 10000 ≤ sizeLine := by decide
  refine ⟨_, rfl, _, rfl, Ln, rfl, (by omega), _, _, rfl, rfl, d, _, rfl, hd, (by omega), (by omega), fun r H1 r0 r1 d1 b1 => ?_⟩
  refine ⟨_, rfl, _, rfl, r, rfl, Ln, rfl, (by omega), _, rfl, (by show 7 ≤ sizeLine; decide), fun p hp => ?_⟩
  refine .inl ⟨d, p, _, rfl, d1.keep (same_upd hp), upd_same, d1.ne hp, (by show 0 < 7; decide), (by show 7 < 1000; decide), fun v H2 hv d2 b2 => ?_⟩
  obtain ⟨z, rfl, hz⟩ : ∃ z : Str, v = .str z ∧ z.length ≤ 2 := by
    simp only [List.mem_cons, List.not_mem_nil, or_false] at hv
    rcases hv with rfl | rfl | rfl | rfl | rfl | rfl | rfl <;> exact ⟨_, rfl, by decide +kernel⟩
  have l1 := cutS_len Ln none (some r)
  have s2 : SB d H H2 := ((SB.but b1).trans (SB.of (same_upd hp))).trans (SB.but b2)
  refine ⟨_, _, rfl, rfl, (by omega), _, rfl, _, rfl, _, rfl, d, _, rfl, d2, (by decide), (by decide), fun r2 H3 _ _ d3 b3 => ⟨_, _, rfl, rfl, _, rfl, Ln, rfl, (by omega), ?_⟩⟩
  have l2 := cutS_len Ln (some (r + r2)) none
  have l3 := len_app (cutS Ln none (some r)) z
  refine ⟨_, _, rfl, rfl, (by omega), ?_⟩
  have l4 := len_app (cutS Ln none (some r) ++ z) (cutS Ln (some (r + r2)) none)
  have s3 := s2.trans (SB.but b3)
  have hB : ((cutS Ln none (some r) ++ z) ++ cutS Ln (some (r + r2)) none).length ≤ 10000 := by omega
  generalize (cutS Ln none (some r) ++ z) ++ cutS Ln (some (r + r2)) none = Bt at hB
  have t3 : Tabs T H3 := tabs_sb hd hT s3
  have fin : ∀ H4 pw, Same H3 H4 → H4 pw = some (.lst ((wordsOf Bt).map V.str)) → tC' D [some (.ref d), x1, some (.str Ln), x3, some (.int r), some (.str Bt), some (.ref pw), x7] H4 := fun H4 pw s4 at4 =>
    qC D d pw Bt _ _ _ _ _ H4 hB at4 (d3.keep s4) (t3.ext s4) fun H' dd tt eb => q H' dd tt (((EB.sb s3).trans (EB.same s4)).trans eb)
  refine ⟨_, rfl, rfl, _, rfl, ite2 (fun h1 => ?_) (fun h1 => ?_)⟩
  · have e : Bt = "" := V.str.inj (of_decide_eq_true h1)
    refine ⟨Nat.zero_le _, fun pw hp2 => fin _ pw (same_upd hp2) ?_⟩
    rw [upd_same, show wordsOf Bt = [] from if_pos e]
    rfl
  · have e : Bt ≠ "" := fun hh => h1 (by rw [hh]; exact decide_eq_true rfl)
    refine ⟨_, rfl, ⟨_, rfl⟩, Bt, _, rfl, rfl, by decide +kernel, (Nat.le_trans (Nat.add_le_add_right hB 2) (by decide)), fun pw hp2 => fin _ pw (same_upd hp2) ?_⟩
    rw [upd_same, show wordsOf Bt = Txt.split Bt " " from if_neg e]
end
end LQ
set_option Elab.async false
set_option linter.all false
set_option maxRecDepth 100000
set_option maxHeartbeats 4000000
namespace LQ
open PySem PySem.Spec PyProof.Rows L2 CG CGX LamX
open PySem.W (kitOne Frag exmOne findIn keepIn codeIn Datum)
def spLines (K : Frag) (T : List (Addr × Str)) : Sp := fun vs H Q _ => ∃ (d a : Addr) (zs : List Str), vs = [.ref d, .ref a] ∧ DiceAt H d ∧ Tabs T H ∧ SqT K H a (zs.map V.str) ∧ (∀ z ∈ zs, isTerm z.cps.toList = true) ∧ zs.length ≤ 61 ∧
  ∀ H', DiceAt H' d → Tabs T H' → EB d H H' → Q (.bl true) H'
theorem tabs_lst {T : List (Addr × Str)} {d : Addr} {xs : List V} {H H' : Hp} (e : H d = some (.lst xs)) (t : Tabs T H) (s : SB d H H') : Tabs T H' := fun p hp => by
  obtain ⟨ps, h1, h2, h3⟩ := t p hp
  have n1 : p.1 ≠ d := fun z => by rw [z, e] at h1; cases h1
  refine ⟨ps, s _ _ n1 h1, h2, fun pos cv hc => ?_⟩
  obtain ⟨x, e1, e2⟩ := h3 pos cv hc
  refine ⟨x, e1, s _ _ (fun z => ?_) e2⟩
  rw [z, e] at e2
  unfold CodeO at e2
  cases e2
section
variable {P : Program} {w : World} {K : Frag} {mg : Str → Option Value} {base : Heap} {cX cP : Addr} {T : List (Addr × Str)} {c pT : Addr}
theorem ok_lines {f : Addr} {fd : FuncData} (F : FunC K "_law_lines_right" "_law_lines_right" sLines f fd c) (L : Lib P w K mg base cX cP) (B : Tb base mg T c pT qLn) :
    FnG P w K mg base CX0 8 f fd ["_law_dice_here", "_law_row_here"] (spLines K T) := by
  refine fnC_of (N := NLn) F scLn (fun vs H Q E h => ?_) (fun A outer s H vs Q E hr hg h => ?_)
  · obtain ⟨d, a, zs, rfl, _⟩ := h
    rfl
  · obtain ⟨d, a, zs, rfl, hd, hT, ha, tz, lz, q⟩ := h
    obtain ⟨tB', hB, qB⟩ := lines_B L B hg hr (P := P) (w := w) (f := f) (s := s) (outer := outer) (H0 := H) (E := E)
    obtain ⟨fR, dR, GR, gR, kR, bR⟩ := L.read
    obtain ⟨fW, dW, GW, gW, kW, bW⟩ := L.write
    obtain ⟨fB, dB, GB, gB, kB, bB⟩ := L.before
    obtain ⟨g, oc, od, kV, doc, pm, an, cdv, ct, osl, gE, kE, lkE, cdE, bE⟩ := L.err
    have hr5 : Room 5 _ := hr.mono (by decide)
    refine ⟨_, PSs.nox (pss_cons (ps_set (i := 2) scLn.nd rfl (Or.inr rfl) (pe_join pe_str (pe_callTy call_list_of (by rfl) L.lw.list PyProof.Rows.boot_list (pa_cons (pv 1) pa_nil))))
      (pss_cons (ps_if (pt_cmpR op_gt (pe_callB call_len_seq (by rfl) L.lw.len PySem.boot_len (pa_cons (pv 1) pa_nil)) pe_int (nomark _))
          (pss_cons (ps_set (i := 3) scLn.nd rfl (Or.inl rfl) (pe_lst (pa_cons (pe_lamcall (T := T) (TT := TErr cX cP) (k := 5) (a := "_law_call") (Ng := NE) (t := fun E => tCall (spWrite K cX) [] E (tCons (tVar 1) tNil)) rfl gE kE lkE cdE bE scE rfl (Or.inl rfl) (err_gives L.ex)
              B.tb rfl B.m B.u hr (lamS_by (show lamSB (defScope sLines) _ = true by decide +kernel)) rfl (fun _ _ _ _ _ => rfl)
              (fun A outer s H E f c' hrl => pe_call (E := E) GW hrl rfl gW kW bW .nil (passes_call (takes_of rfl rfl rfl rfl) fun _ _ _ _ h => h) (pa_cons (pv 1) pa_nil))) pa_nil)))
          (pss_cons (ps_expr (pe_bm PySem.F.plainAttrs_list PySem.F.slot_list_append PySem.F.type_list_append mt_append (pv 3) (pa_cons (pe_lamcall (T := T) (TT := TErr cX cP) (k := 5) (a := "_law_call") (Ng := NE) (t := fun E => tCall (spRead K cP) [] E (tCons (tVar 2) tNil))
              rfl gE kE lkE cdE bE scE rfl (Or.inl rfl) (err_gives L.ex) B.tb rfl B.m B.u hr (lamS_by (show lamSB (defScope sLines) _ = true by decide +kernel)) rfl (fun _ _ _ _ _ => rfl)
              (fun A outer s H E f c' hrl => pe_call (E := E) GR hrl rfl gR kR bR .nil (passes_call (takes_of rfl rfl rfl rfl) fun _ _ _ _ h => h) (pa_cons (pv 2) pa_nil))) pa_nil)))
          (pss_one (ps_ret (pe_and (pe_cmpR (op_eqA hr.units (α := List Str)) (pv 3) (pe_lst (pa_cons pe_str (pa_cons pe_str pa_nil))) (nomark _))
            (pe_one (pe_cmpR op_eq (pe_lamcall (T := T) (TT := TErr cX cP) (k := 5) (a := "_law_call") (Ng := NE) (t := fun E => tCall (spBefore K cX) [] E (tCons (tTup tNil) (tCons (tVar 1) tNil)))
              rfl gE kE lkE cdE bE scE rfl (Or.inl rfl) (err_gives L.ex) B.tb rfl B.m B.u hr (lamS_by (show lamSB (defScope sLines) _ = true by decide +kernel)) rfl (fun _ _ _ _ _ => rfl)
              (fun A outer s H E f c' hrl => pe_call (E := E) GB hrl rfl gB kB bB .nil (passes_call (takes_of rfl rfl rfl rfl) fun _ _ _ _ h => h) (pa_cons (pe_tup pa_nil) (pa_cons (pv 1) pa_nil)))) pe_str (nomark _)))))))) pss_nil)
      (pss_cons (ps_if (PW.pt (pw_or (pt_cmpR op_ne (pe_call GW hr5 rfl gW kW bW .nil passF (pa_cons (pv 1) pa_nil)) (pv 2) (nomark _))
          (pw_or1 (pt_cmpR op_ne (pe_callB (call_repr_data hg) (by rfl) L.ex.repr PyProof.Rows.boot_repr (pa_cons (pe_call GR hr5 rfl gR kR bR .nil passF (pa_cons (pv 2) pa_nil)) pa_nil))
            (pe_callB (call_repr_data hg) (by rfl) L.ex.repr PyProof.Rows.boot_repr (pa_cons (pv 1) pa_nil)) (nomark _))))) (pss_one (ps_ret pe_bl)) pss_nil)
      hB))), ?_⟩
    have jl := join_len1 zs tz
    have sl : 10000 ≤ sizeLine := by decide
    have su := sum_len tz
    refine ⟨⟨_, rfl⟩, _, rfl, a, _, rfl, .inr ha, fun l hl => ?_⟩
    refine ⟨_, l, zs, rfl, rfl, .inl (SqL.of upd_same), ?_, ?_⟩
    · rw [show (Str.ofString " ").length = 1 by decide +kernel]
      omega
    have s1 : Same H (upd H l (.lst (zs.map V.str))) := same_upd hl
    generalize upd H l (HO.lst (zs.map V.str)) = H1 at s1
    have tx : ∀ {H' : Hp}, SqT K H' a (zs.map V.str) → Tx K H' (.ref a) (some (zs.map some)) := fun h => tx_row h tz (by omega)
    have wj := words_join tz
    have eR : rdO (some (Txt.join " " zs)) = if termsO (some ((wordsOf (Txt.join " " zs)).map some)) = true then some (wordsOf (Txt.join " " zs)) else none := rfl
    rw [wj, terms_row tz] at eR
    have to := terms_row tz
    have lL : (Txt.join " " zs).length ≤ 10000 := by omega
    refine ⟨_, rfl, a, _, rfl, .inr (sqT_same s1 ha), _, _, rfl, rfl, _, rfl, ite2 (fun h1 => ?_) (fun h1 => ?_)⟩
    · have g1 := of_decide_eq_true h1
      rw [List.length_map] at g1
      rw [decide_eq_false (show ¬ zs.length ≤ 60 by omega)] at eR to
      have bad : ∀ {zs' : List Str}, (some (zs.map some) = some (zs'.map some)) → termsO (some (zs.map some)) = true → False := fun _ z => by rw [to] at z; cases z
      refine ⟨hT.ext s1, fun H2 e2 t2 => ?_⟩
      refine ⟨_, rfl, .ref a, _, rfl, tx (sqT_ext e2 (sqT_same s1 ha)), fun zs' z1 z2 => (bad z1 z2).elim, fun _ H3 s3 => .inl ⟨rfl, ?_⟩⟩
      have d3 := (dice_ext (hd.keep s1) e2).keep s3
      have b3 : EB d H H3 := ((EB.same s1).trans (EB.ext e2)).trans (EB.same s3)
      refine ⟨(by show 1 ≤ sizeLine; decide), fun p hp => ?_⟩
      have s4 : Same H3 (upd H3 p (.lst [.str "text"])) := same_upd hp
      have at4 : upd H3 p (.lst [.str "text"]) p = some (.lst [.str "text"]) := upd_same
      generalize upd H3 p (HO.lst [V.str (Str.ofString "text")]) = H4 at s4 at4
      refine ⟨_, rfl, .inl ⟨rfl, _, SqL.of at4⟩, ?_⟩
      refine ⟨(t2.ext s3).ext s4, fun H5 e5 t5 => ?_⟩
      have wn : rdO (some (Txt.join " " zs)) = none := by rw [eR]; rfl
      refine ⟨_, rfl, _, some (Txt.join " " zs), rfl, ⟨rfl, lL⟩, fun ws' e => absurd (wn.symm.trans e) (fun z => nomatch z), fun _ H6 dd s6 at6 => .inr ⟨rfl, dd, rfl, at6, ?_⟩⟩
      have at6' : H6 p = some (.lst [.str "text"]) := s6 _ _ (e5 _ _ at4 fun ps z => by cases z)
      refine ⟨p, _, _, rfl, rfl, at6', (by show 1 < sizeLine; decide), ?_⟩
      have np : p ≠ d := d3.ne hp
      have d6 : DiceAt H6 d := (dice_ext (d3.keep s4) e5).keep s6
      have b6 : EB d H H6 := ((b3.trans (EB.same s4)).trans (EB.ext e5)).trans (EB.same s6)
      have t6 : Tabs T H6 := t5.ext s6
      have t7 : Tabs T (upd H6 p (.lst [.str "text", .str "parse None"])) := tabs_lst at6' t6 fun b o n e => by rw [upd_ne n]; exact e
      have d7 : DiceAt (upd H6 p (.lst [.str "text", .str "parse None"])) d := by
        obtain ⟨x, y, z, e⟩ := d6
        exact ⟨x, y, z, by rw [upd_ne (Ne.symm np)]; exact e⟩
      have at7 : upd H6 p (.lst [.str "text", .str "parse None"]) p = some (.lst [.str "text", .str "parse None"]) := upd_same
      have b7 : EB d H (upd H6 p (.lst [.str "text", .str "parse None"])) := fun b o n nt e => by
        have e3 := b3 b o n nt e
        rw [upd_ne (ne_of_none e3 hp)]
        exact b6 b o n nt e
      obtain ⟨H7, h7⟩ : ∃ H7, H7 = upd H6 p (.lst ([V.str "text"] ++ [V.str "parse None"])) := ⟨_, rfl⟩
      have h7' : upd H6 p (.lst [V.str "text", V.str "parse None"]) = H7 := h7.symm
      rw [h7'] at t7 d7 at7 b7
      rw [← h7]
      refine ⟨_, rfl, (by show 2 ≤ sizeLine; decide), fun l2 hl2 => ?_⟩
      have s8 := same_upd (o := .lst [.str "text", .str "parse None"]) hl2
      refine ⟨[Str.ofString "text", Str.ofString "parse None"], [Str.ofString "text", Str.ofString "parse None"], .lst (SqL.of (s8 _ _ at7)) (.cons (.str _) (.cons (.str _) .nil)), .lst (SqL.of upd_same) (.cons (.str _) (.cons (.str _) .nil)), by decide, _, rfl, ?_⟩
      rw [decide_eq_true rfl]
      refine iteT ?_
      refine ⟨t7.ext s8, fun H9 e9 t9 => ⟨Nat.zero_le _, fun p0 hp0 => ?_⟩⟩
      have b9 := ((b7.trans (EB.same s8)).trans (EB.ext e9)).trans (EB.same (same_upd (o := .tup []) hp0))
      have d9 := (dice_ext (d7.keep s8) e9).keep (same_upd (o := .tup []) hp0)
      refine ⟨_, rfl, .ref p0, .ref a, some [], some (zs.map some), rfl, ⟨p0, [], rfl, SqT.of upd_same, .nil, Nat.zero_le _⟩, tx (sqT_eb hd b9 ha), fun zs' ws' z1 z2 z3 => ?_, fun _ Hx sx => .inl ⟨rfl, rfl, ?_⟩⟩
      · rw [to, Bool.and_false] at z3
        cases z3
      · rw [decide_eq_true rfl]
        exact q Hx (d9.keep sx) ((t9.ext (same_upd hp0)).ext sx) (b9.trans (EB.same sx))
    · have g1 := mt decide_eq_true h1
      rw [List.length_map] at g1
      rw [decide_eq_true (show zs.length ≤ 60 by omega)] at eR to
      have yes : rdO (some (Txt.join " " zs)) = some zs := by rw [eR]; rfl
      obtain ⟨k1, k2, k3, k4⟩ := shown_row tz lz
      have hu := hr.units
      have room : (XL P w K mg base f c A outer s H E).A.units + ((PyData.tuple (zs.map Datum.toD)).depth + 1) < cLine := by
        show (A.deeper _).units + _ < cLine
        omega
      refine ⟨_, rfl, .ref a, _, rfl, tx (sqT_same s1 ha), fun zs' z1 _ H2 s2 => ?_, fun z => absurd (to.symm.trans z) (by decide)⟩
      obtain rfl := some_inj z1
      refine ⟨_, rfl, rfl, _, rfl, ?_⟩
      rw [decide_eq_true rfl]
      refine iteF ?_
      refine ⟨_, rfl, _, some (Txt.join " " zs), rfl, ⟨rfl, lL⟩, fun ws' e H3 p3 s3 at3 => ?_, fun z => absurd (yes.symm.trans z) (fun z => nomatch z)⟩
      obtain rfl := Option.some.inj (yes.symm.trans e)
      have s13 := (s1.trans s2).trans s3
      refine ⟨p3, _, rfl, reads_row (SqT.of at3) k4, k1, room, k3, ?_⟩
      refine ⟨_, rfl, a, _, rfl, reads_row (sqT_same s13 ha) k4, k1, room, k3, rfl, _, rfl, ?_⟩
      rw [decide_eq_true rfl]
      refine iteF ?_
      exact qB _ d _ _ _ _ _ _ _ H3 (by omega) (hd.keep s13) (hT.ext s13) fun H' dd tt eb => q H' dd tt ((EB.same s13).trans eb)
end
end LQ
set_option Elab.async false
set_option linter.all false
set_option maxRecDepth 100000
set_option maxHeartbeats 4000000
namespace LQ
open PySem PySem.Spec PyProof.Rows L2 CG CGX LamX
open PySem.W (kitOne Frag exmOne findIn keepIn codeIn Datum)
/-! ### odd values, wrong texts -/
/-- no string: none, a number, a truth value, or a list, tuple or dict that is not the dice -/
def Od (d : Addr) (H : Hp) (v : V) : Prop := v = .non ∨ (∃ i, v = .int i) ∨ (∃ b, v = .bl b) ∨ ∃ a, v = .ref a ∧ a ≠ d ∧ ((∃ xs, H a = some (.lst xs)) ∨ (∃ xs, H a = some (.tup xs)) ∨ ∃ kvs, H a = some (.dK kvs))
theorem Od.sx {K : Frag} {d : Addr} {H : Hp} {v : V} (h : Od d H v) : Sx K H v none := by
  rcases h with rfl | ⟨i, rfl⟩ | ⟨b, rfl⟩ | ⟨a, rfl, _, ⟨xs, e⟩ | ⟨xs, e⟩ | ⟨kvs, e⟩⟩
  · exact ⟨_, .base .non, rfl⟩
  · exact ⟨_, .base (.int i), rfl⟩
  · exact ⟨_, .base (.bl b), rfl⟩
  · exact ⟨_, .base (.lst e), rfl⟩
  · exact ⟨_, .base (.tup e), rfl⟩
  · exact ⟨_, .base (.dK e), rfl⟩
theorem Od.eb {d : Addr} {H H' : Hp} {v : V} (s : EB d H H') (h : Od d H v) : Od d H' v := by
  rcases h with h | h | h | ⟨a, rfl, n, ⟨xs, e⟩ | ⟨xs, e⟩ | ⟨kvs, e⟩⟩
  · exact .inl h
  · exact .inr (.inl h)
  · exact .inr (.inr (.inl h))
  · exact .inr (.inr (.inr ⟨a, rfl, n, .inl ⟨xs, s _ _ n (fun ps z => by cases z) e⟩⟩))
  · exact .inr (.inr (.inr ⟨a, rfl, n, .inr (.inl ⟨xs, s _ _ n (fun ps z => by cases z) e⟩)⟩))
  · exact .inr (.inr (.inr ⟨a, rfl, n, .inr (.inr ⟨kvs, s _ _ n (fun ps z => by cases z) e⟩)⟩))
/-- no text -/
def Wr (d : Addr) (H : Hp) (v : V) : Prop := v = .non ∨ (∃ z, v = .str z) ∨ ∃ a, v = .ref a ∧ a ≠ d ∧ ((∃ xs, H a = some (.lst xs)) ∨ H a = some (.tup [.str "E"]) ∨ H a = some (.tup [.str "a", .int 0]) ∨ H a = some (.tup [.str "$"]))
theorem Wr.tx {K : Frag} {d : Addr} {H : Hp} {v : V} (h : Wr d H v) : ∃ t, Tx K H v t ∧ termsO t = false := by
  rcases h with rfl | ⟨z, rfl⟩ | ⟨a, rfl, _, ⟨xs, e⟩ | e | e | e⟩
  · exact ⟨none, ⟨_, .base .non, rfl⟩, rfl⟩
  · exact ⟨none, ⟨_, .base (.str z), rfl⟩, rfl⟩
  · exact ⟨none, ⟨_, .base (.lst e), rfl⟩, rfl⟩
  · exact ⟨some [some "E"], ⟨a, _, rfl, SqT.of e, .cons ⟨rfl, by decide +kernel⟩ .nil, by decide⟩, by decide +kernel⟩
  · exact ⟨some [some "a", none], ⟨a, _, rfl, SqT.of e, .cons ⟨rfl, by decide +kernel⟩ (.cons ⟨_, .base (.int 0), rfl⟩ .nil), by decide⟩, by decide +kernel⟩
  · exact ⟨some [some "$"], ⟨a, _, rfl, SqT.of e, .cons ⟨rfl, by decide +kernel⟩ .nil, by decide⟩, by decide +kernel⟩
theorem Wr.eb {d : Addr} {H H' : Hp} {v : V} (s : EB d H H') (h : Wr d H v) : Wr d H' v := by
  rcases h with h | h | ⟨a, rfl, n, ⟨xs, e⟩ | e | e | e⟩
  · exact .inl h
  · exact .inr (.inl h)
  · exact .inr (.inr ⟨a, rfl, n, .inl ⟨xs, s _ _ n (fun ps z => by cases z) e⟩⟩)
  · exact .inr (.inr ⟨a, rfl, n, .inr (.inl (s _ _ n (fun ps z => by cases z) e))⟩)
  · exact .inr (.inr ⟨a, rfl, n, .inr (.inr (.inl (s _ _ n (fun ps z => by cases z) e)))⟩)
  · exact .inr (.inr ⟨a, rfl, n, .inr (.inr (.inr (s _ _ n (fun ps z => by cases z) e)))⟩)
abbrev NRt : List Str := ["_law_dice_here", "_law_odd", "_law_turn", "_law_value", "_law_row_here", "_law_other", "_law_more", "_law_due", "_law_one", "_law_wrong", "_law_bad", "_law_told_here"]
theorem scRt : FnScope NRt ["_law_dice_here"] (defScope sRight) := ⟨rfl, rfl, rfl, by decide +kernel, rfl, by decide +kernel, by decide +kernel⟩
def qRt : Str := "_law_right" ++ ".<locals>." ++ "<lambda>"
abbrev XR (P : Program) (w : World) (K : Frag) (mg : Str → Option Value) (base : Heap) (f c : Addr) (A : Around) (outer : List Env) (s : Shared) (H : Hp) (E : XK) : Cx :=
  (cxOf CX0 P w K mg base NRt "_law_right" (defScope sRight) f (.ref c) A outer s H E).nox
structure Lib2 (P : Program) (w : World) (K : Frag) (mg : Str → Option Value) (base : Heap) (T : List (Addr × Str)) : Prop where
  lines : Has K mg "_law_lines_right" ["_law_dice_here", "_law_row_here"] fun f fd => FnG P w K mg base CX0 8 f fd ["_law_dice_here", "_law_row_here"] (spLines K T)
/-- row[:3] -/
theorem sl3 {K : Frag} {H : Hp} {a : Addr} {zs : List Str} (ha : SqT K H a (zs.map V.str)) {Q : VK} (q : ∀ b H', Same H H' → SqT K H' b ((zs.take 3).map V.str) → Q (.ref b) H') : rSlA K (.ref a) none (some 3) H Q := by
  refine ⟨a, _, rfl, ha, fun e => ?_, fun ne p hp => ?_⟩
  · have h2 : min 3 (zs.map V.str).length = (zs.map V.str).length := e.2
    rw [List.length_map] at h2
    refine q a H (Same.rfl' H) ?_
    rw [List.take_of_length_le (by omega)]
    exact ha
  · refine q p _ (same_upd hp) ?_
    have e : cutV (zs.map V.str) none (some 3) = (zs.take 3).map V.str := by
      show ((zs.map V.str).drop 0).take (min 3 (zs.map V.str).length - 0) = _
      rw [List.drop_zero, Nat.sub_zero, List.map_take, List.length_map]
      by_cases h : 3 ≤ zs.length
      · rw [Nat.min_eq_left h]
      · rw [Nat.min_eq_right (by omega), List.take_of_length_le (by rw [List.length_map]; omega), List.take_of_length_le (by rw [List.length_map]; omega)]
    rw [← e]
    exact SqT.of upd_same
end LQ
set_option Elab.async false
set_option linter.all false
set_option maxRecDepth 100000
set_option maxHeartbeats 4000000
namespace LQ
open PySem PySem.Spec PyProof.Rows L2 CG CGX LamX
open PySem.W (kitOne Frag exmOne findIn keepIn codeIn Datum)
def Bn (T : List (Addr × Str)) (d p : Addr) (H0 H : Hp) (xs : List V) : Prop := DiceAt H d ∧ Tabs T H ∧ H p = some (.lst xs) ∧ EB d H0 H
section
variable {T : List (Addr × Str)} {d p : Addr} {H0 H H' : Hp} {xs : List V}
theorem Bn.same (b : Bn T d p H0 H xs) (s : Same H H') : Bn T d p H0 H' xs := ⟨b.1.keep s, b.2.1.ext s, s _ _ b.2.2.1, b.2.2.2.trans (EB.same s)⟩
theorem Bn.ext (b : Bn T d p H0 H xs) (s : ExtN H H') (t : Tabs T H') : Bn T d p H0 H' xs := ⟨dice_ext b.1 s, t, s _ _ b.2.2.1 (fun ps z => by cases z), b.2.2.2.trans (EB.ext s)⟩
theorem Bn.app (n : p ≠ d) (h0 : H0 p = none) (b : Bn T d p H0 H xs) (y : V) : Bn T d p H0 (upd H p (.lst (xs ++ [y]))) (xs ++ [y]) := by
  refine ⟨?_, tabs_lst b.2.2.1 b.2.1 fun c o n e => by rw [upd_ne n]; exact e, upd_same, fun c o nd nt e => ?_⟩
  · obtain ⟨x, y, z, e⟩ := b.1
    exact ⟨x, y, z, by rw [upd_ne (Ne.symm n)]; exact e⟩
  · rw [upd_ne (ne_of_none e h0)]
    exact b.2.2.2 c o nd nt e
end
section
variable {P : Program} {w : World} {K : Frag} {mg : Str → Option Value} {base : Heap} {cX cP : Addr} {T : List (Addr × Str)} {f c pT : Addr} {A : Around} {outer : List Env} {s : Shared} {H0 : Hp} {E : XK}
theorem right_D3 (L : Lib P w K mg base cX cP) (L2' : Lib2 P w K mg base T) (B : Tb base mg T c pT qRt) (hg : A.guards = some []) (hr : Room 8 (A.deeper (envOfC "_law_right" (defScope sRight) s.heap.objs.size f (.ref c)))) :
    ∃ t, PSs (XR P w K mg base f c A outer s H0 E) ((defBody sRight).drop 11) t ∧
      ∀ (D : Ends) (d a p : Addr) (zs : List Str) (v9 v10 : V) (x1 x2 x3 x5 x6 x7 x8 : Option V) (Hs H : Hp), p ≠ d → Hs p = none → Bn T d p Hs H [.str "text", .str "text", .str "text"] → DiceAt Hs d → SqT K Hs a (zs.map V.str) → (∀ z ∈ zs, isTerm z.cps.toList = true) → zs.length ≤ 61 → Od d Hs v10 →
        (∀ H', Tabs T H' → EB d Hs H' → D.rt (.bl true) H') → t D [some (.ref d), x1, x2, x3, some (.ref a), x5, x6, x7, x8, some v9, some v10, some (.ref p)] H := by
  obtain ⟨fR, dR, GR, gR, kR, bR⟩ := L.read
  obtain ⟨fL, dL, GL, gL, kL, bL⟩ := L2'.lines
  obtain ⟨g, oc, od, kV, doc, pm, an, cdv, ct, osl, gE, kE, lkE, cdE, bE⟩ := L.err
  have hr7 : Room 7 _ := hr.mono (by decide)
  refine ⟨_, pss_cons (ps_expr (pe_bm PySem.F.plainAttrs_list PySem.F.slot_list_append PySem.F.type_list_append mt_append (pv 11) (pa_cons (pe_lamcall (T := T) (TT := TErr cX cP) (k := 5) (a := "_law_call") (Ng := NE) (t := fun E => tCall (spRead K cP) [] E (tCons (tVar 10) tNil)) rfl gE kE lkE cdE bE scE rfl (Or.inl rfl) (err_gives L.ex) B.tb rfl B.m B.u hr7
        (lamS_by (show lamSB (defScope sRight) _ = true by decide +kernel)) rfl (fun _ _ _ _ _ => rfl) (fun A outer s H E f c' hrl => pe_call (E := E) GR hrl rfl gR kR bR .nil (passes_call (takes_of rfl rfl rfl rfl) fun _ _ _ _ h => h) (pa_cons (pv 10) pa_nil))) pa_nil)))
    (pss_one (ps_ret (pe_and (pe_cmpR (op_eqA hr.units (α := List Str)) (pv 11) (pe_lst (pa_cons pe_str (pa_cons pe_str (pa_cons pe_str (pa_cons pe_str pa_nil))))) (nomark _))
      (pe_one (pe_callG GL hr hg rfl gL kL bL pass0 (pa_cons (pv 0) (pa_cons (pv 4) pa_nil))))))), ?_⟩
  intro D d a p zs v9 v10 x1 x2 x3 x5 x6 x7 x8 Hs H np hp b0 hd ha tz lz od q
  refine ⟨_, rfl, .inl ⟨rfl, _, SqL.of b0.2.2.1⟩, b0.2.1, fun H1 e1 t1 => ?_⟩
  have b1 := b0.ext e1 t1
  refine ⟨_, rfl, v10, none, rfl, (od.eb b1.2.2.2).sx, fun ws e => (nomatch e), fun _ H2 dd s2 at2 => .inr ⟨rfl, dd, rfl, at2, ?_⟩⟩
  have b2 := b1.same s2
  have b3 := b2.app np hp (.str "parse None")
  refine ⟨p, _, _, rfl, rfl, b2.2.2.1, (by show 3 < sizeLine; decide), ?_⟩
  have h3 : ∃ H3, H3 = upd H2 p (.lst ([.str "text", .str "text", .str "text"] ++ [.str "parse None"])) := ⟨_, rfl⟩
  obtain ⟨H3, h3⟩ := h3
  rw [← h3] at b3 ⊢
  refine ⟨_, rfl, (by show 4 ≤ sizeLine; decide), fun l hl => ?_⟩
  have b4 := b3.same (same_upd (o := .lst [.str "text", .str "text", .str "text", .str "parse None"]) hl)
  refine ⟨[Str.ofString "text", Str.ofString "text", Str.ofString "text", Str.ofString "parse None"], [Str.ofString "text", Str.ofString "text", Str.ofString "text", Str.ofString "parse None"],
    .lst (SqL.of b4.2.2.1) (.cons (.str _) (.cons (.str _) (.cons (.str _) (.cons (.str _) .nil)))), .lst (SqL.of upd_same) (.cons (.str _) (.cons (.str _) (.cons (.str _) (.cons (.str _) .nil)))), by decide, _, rfl, ?_⟩
  rw [decide_eq_true rfl]
  refine iteT ?_
  exact ⟨_, rfl, _, rfl, d, a, zs, rfl, b4.1, b4.2.1, sqT_eb hd b4.2.2.2 ha, tz, lz, fun H' d' t' e' => q H' t' (b4.2.2.2.trans e')⟩
end
end LQ
set_option Elab.async false
set_option linter.all false
set_option maxRecDepth 100000
set_option maxHeartbeats 4000000
namespace LQ
open PySem PySem.Spec PyProof.Rows L2 CG CGX LamX
open PySem.W (kitOne Frag exmOne findIn keepIn codeIn Datum)
section
variable {P : Program} {w : World} {K : Frag} {mg : Str → Option Value} {base : Heap} {cX cP : Addr} {T : List (Addr × Str)} {f c pT : Addr} {A : Around} {outer : List Env} {s : Shared} {H0 : Hp} {E : XK}
theorem right_D2 (L : Lib P w K mg base cX cP) (L2' : Lib2 P w K mg base T) (B : Tb base mg T c pT qRt) (hg : A.guards = some []) (hr : Room 8 (A.deeper (envOfC "_law_right" (defScope sRight) s.heap.objs.size f (.ref c)))) :
    ∃ t, PSs (XR P w K mg base f c A outer s H0 E) ((defBody sRight).drop 9) t ∧
      ∀ (D : Ends) (d a p : Addr) (zs : List Str) (v9 v10 : V) (x1 x2 x3 x5 x6 x7 x8 : Option V) (Hs H : Hp), p ≠ d → Hs p = none → Bn T d p Hs H [.str "text"] → DiceAt Hs d → SqT K Hs a (zs.map V.str) → (∀ z ∈ zs, isTerm z.cps.toList = true) → zs.length ≤ 61 → Wr d Hs v9 → Od d Hs v10 →
        (∀ H', Tabs T H' → EB d Hs H' → D.rt (.bl true) H') → t D [some (.ref d), x1, x2, x3, some (.ref a), x5, x6, x7, x8, some v9, some v10, some (.ref p)] H := by
  obtain ⟨t3, h3, q3⟩ := right_D3 L L2' B hg hr (P := P) (w := w) (f := f) (s := s) (outer := outer) (H0 := H0) (E := E)
  obtain ⟨fB, dB, GB, gB, kB, bB⟩ := L.before
  obtain ⟨g, oc, od, kV, doc, pm, an, cdv, ct, osl, gE, kE, lkE, cdE, bE⟩ := L.err
  have hr7 : Room 7 _ := hr.mono (by decide)
  refine ⟨_, pss_cons (ps_expr (pe_bm PySem.F.plainAttrs_list PySem.F.slot_list_append PySem.F.type_list_append mt_append (pv 11) (pa_cons (pe_lamcall (T := T) (TT := TErr cX cP) (k := 5) (a := "_law_call") (Ng := NE) (t := fun E => tCall (spBefore K cX) [] E (tCons (tVar 9) (tCons (tSl (rSlA K) (tVar 4) tNoPart (tPart (tC (.int 3)))) tNil))) rfl gE kE lkE cdE bE scE rfl (Or.inl rfl) (err_gives L.ex) B.tb rfl B.m B.u hr7
        (lamS_by (show lamSB (defScope sRight) _ = true by decide +kernel)) rfl (fun _ _ _ _ _ => rfl) (fun A outer s H E f c' hrl => pe_call (E := E) GB hrl rfl gB kB bB .nil (passes_call (takes_of rfl rfl rfl rfl) fun _ _ _ _ h => h) (pa_cons (pv 9) (pa_cons (pe_slice sl_tupA (pv 4) po_none (po_some pe_int)) pa_nil)))) pa_nil)))
    (pss_cons (ps_expr (pe_bm PySem.F.plainAttrs_list PySem.F.slot_list_append PySem.F.type_list_append mt_append (pv 11) (pa_cons (pe_lamcall (T := T) (TT := TErr cX cP) (k := 5) (a := "_law_call") (Ng := NE) (t := fun E => tCall (spBefore K cX) [] E (tCons (tSl (rSlA K) (tVar 4) tNoPart (tPart (tC (.int 3)))) (tCons (tVar 9) tNil))) rfl gE kE lkE cdE bE scE rfl (Or.inl rfl) (err_gives L.ex) B.tb rfl B.m B.u hr7
        (lamS_by (show lamSB (defScope sRight) _ = true by decide +kernel)) rfl (fun _ _ _ _ _ => rfl) (fun A outer s H E f c' hrl => pe_call (E := E) GB hrl rfl gB kB bB .nil (passes_call (takes_of rfl rfl rfl rfl) fun _ _ _ _ h => h) (pa_cons (pe_slice sl_tupA (pv 4) po_none (po_some pe_int)) (pa_cons (pv 9) pa_nil)))) pa_nil))) h3), ?_⟩
  intro D d a p zs v9 v10 x1 x2 x3 x5 x6 x7 x8 Hs H np hp b0 hd ha tz lz wr od q
  have tz3 : ∀ z ∈ zs.take 3, isTerm z.cps.toList = true := fun z hz => tz z (List.mem_of_mem_take hz)
  have l3 : (zs.take 3).length ≤ 20000 := Nat.le_trans (List.length_take_le 3 zs) (by decide)
  refine ⟨_, rfl, .inl ⟨rfl, _, SqL.of b0.2.2.1⟩, b0.2.1, fun H1 e1 t1 => ?_⟩
  have b1 := b0.ext e1 t1
  refine ⟨_, rfl, _, rfl, 3, rfl, sl3 (sqT_eb hd b1.2.2.2 ha) fun r1 H2 s2 hr1 => ?_⟩
  have b2 := b1.same s2
  obtain ⟨t, htx, hto⟩ := (wr.eb b2.2.2.2).tx (K := K)
  refine ⟨v9, .ref r1, t, _, rfl, htx, tx_row hr1 tz3 l3, fun _ _ _ _ z => ?_, fun _ H3 s3 => .inl ⟨rfl, ?_⟩⟩
  · rw [hto] at z
    cases z
  have b3 := b2.same s3
  refine ⟨p, _, _, rfl, rfl, b3.2.2.1, (by show 1 < sizeLine; decide), ?_⟩
  have b4 := b3.app np hp (.str "text")
  have h4 : ∃ H4, H4 = upd H3 p (.lst ([.str "text"] ++ [.str "text"])) := ⟨_, rfl⟩
  obtain ⟨H4, h4⟩ := h4
  rw [← h4] at b4 ⊢
  refine ⟨_, rfl, .inl ⟨rfl, _, SqL.of b4.2.2.1⟩, b4.2.1, fun H5 e5 t5 => ?_⟩
  have b5 := b4.ext e5 t5
  refine ⟨_, rfl, 3, rfl, sl3 (sqT_eb hd b5.2.2.2 ha) fun r2 H6 s6 hr2 => ?_⟩
  have b6 := b5.same s6
  obtain ⟨t', htx', hto'⟩ := (wr.eb b6.2.2.2).tx (K := K)
  refine ⟨_, rfl, .ref r2, v9, _, t', rfl, tx_row hr2 tz3 l3, htx', fun _ _ _ _ z => ?_, fun _ H7 s7 => .inl ⟨rfl, ?_⟩⟩
  · rw [hto', Bool.and_false] at z
    cases z
  have b7 := b6.same s7
  refine ⟨p, _, _, rfl, rfl, b7.2.2.1, (by show 2 < sizeLine; decide), ?_⟩
  exact q3 D d a p zs v9 v10 _ _ _ _ _ _ _ Hs _ np hp (b7.app np hp (.str "text")) hd ha tz lz od q
end
end LQ
set_option Elab.async false
set_option linter.all false
set_option maxRecDepth 100000
set_option maxHeartbeats 4000000
namespace LQ
open PySem PySem.Spec PyProof.Rows L2 CG CGX LamX
open PySem.W (kitOne Frag exmOne findIn keepIn codeIn Datum)
section
variable {P : Program} {w : World} {K : Frag} {mg : Str → Option Value} {base : Heap} {cX cP : Addr} {T : List (Addr × Str)} {f c pT : Addr} {A : Around} {outer : List Env} {s : Shared} {H0 : Hp} {E : XK}
theorem right_D1 (L : Lib P w K mg base cX cP) (L2' : Lib2 P w K mg base T) (B : Tb base mg T c pT qRt) (hg : A.guards = some []) (hr : Room 8 (A.deeper (envOfC "_law_right" (defScope sRight) s.heap.objs.size f (.ref c)))) :
    ∃ t, PSs (XR P w K mg base f c A outer s H0 E) ((defBody sRight).drop 7) t ∧
      ∀ (D : Ends) (d a : Addr) (zs : List Str) (v9 : V) (x1 x2 x3 x5 x6 x7 x8 x10 x11 : Option V) (H : Hp), DiceAt H d → Tabs T H → SqT K H a (zs.map V.str) → (∀ z ∈ zs, isTerm z.cps.toList = true) → zs.length ≤ 61 → Wr d H v9 →
        (∀ H', Tabs T H' → EB d H H' → D.rt (.bl true) H') → t D [some (.ref d), x1, x2, x3, some (.ref a), x5, x6, x7, x8, some v9, x10, x11] H := by
  obtain ⟨t3, h3, q3⟩ := right_D2 L L2' B hg hr (P := P) (w := w) (f := f) (s := s) (outer := outer) (H0 := H0) (E := E)
  obtain ⟨fP, dP, GP, gP, kP, bP⟩ := L.pick
  obtain ⟨fW, dW, GW, gW, kW, bW⟩ := L.write
  have hr2 : Room 2 _ := hr.mono (by decide)
  obtain ⟨g, oc, od, kV, doc, pm, an, cdv, ct, osl, gE, kE, lkE, cdE, bE⟩ := L.err
  have hr7 : Room 7 _ := hr.mono (by decide)
  refine ⟨_, pss_cons (ps_set (i := 10) scRt.nd rfl (Or.inr rfl) (pe_call GP hr2 rfl gP kP bP .nil pass0 (pa_cons (pv 0) (pa_cons (pe_lst (pa_cons pe_non (pa_cons pe_int (pa_cons (pe_tup (pa_cons pe_str pa_nil)) (pa_cons (pe_lst (pa_cons pe_str pa_nil)) pa_nil))))) pa_nil))))
    (pss_cons (ps_set (i := 11) scRt.nd rfl (Or.inl rfl) (pe_lst (pa_cons (pe_lamcall (T := T) (TT := TErr cX cP) (k := 5) (a := "_law_call") (Ng := NE) (t := fun E => tCall (spWrite K cX) [] E (tCons (tVar 9) tNil)) rfl gE kE lkE cdE bE scE rfl (Or.inl rfl) (err_gives L.ex) B.tb rfl B.m B.u hr7
        (lamS_by (show lamSB (defScope sRight) _ = true by decide +kernel)) rfl (fun _ _ _ _ _ => rfl) (fun A outer s H E f c' hrl => pe_call (E := E) GW hrl rfl gW kW bW .nil (passes_call (takes_of rfl rfl rfl rfl) fun _ _ _ _ h => h) (pa_cons (pv 9) pa_nil))) pa_nil))) h3), ?_⟩
  intro D d a zs v9 x1 x2 x3 x5 x6 x7 x8 x10 x11 H hd hT ha tz lz wr q
  refine ⟨_, rfl, (by show 1 ≤ sizeLine; decide), fun p1 n1 => ⟨(by show 1 ≤ sizeLine; decide), fun p2 n2 => ⟨(by show 4 ≤ sizeLine; decide), fun p5 n5 => ?_⟩⟩⟩
  have s1 := same_upd (o := .tup [.str "a"]) n1
  have s2 := same_upd (o := .lst [.str "a"]) n2
  have s5 := same_upd (o := .lst [.non, .int 0, .ref p1, .ref p2]) n5
  have sa := (s1.trans s2).trans s5
  refine .inl ⟨d, p5, _, rfl, hd.keep sa, upd_same, ((hd.keep s1).keep s2).ne n5, (by show 0 < 4; decide), (by show 4 < 1000; decide), fun v H2 hv d2 b2 => ?_⟩
  have e2 : EB d H H2 := (EB.same sa).trans (EB.sb (SB.but b2))
  have od : Od d H2 v := by
    refine Od.eb (EB.sb (SB.but b2)) ?_
    simp only [List.mem_cons, List.not_mem_nil, or_false] at hv
    rcases hv with rfl | rfl | rfl | rfl
    · exact .inl rfl
    · exact .inr (.inl ⟨_, rfl⟩)
    · exact .inr (.inr (.inr ⟨p1, rfl, hd.ne n1, .inr (.inl ⟨_, (s2.trans s5) _ _ upd_same⟩)⟩))
    · exact .inr (.inr (.inr ⟨p2, rfl, (hd.keep s1).ne n2, .inl ⟨_, s5 _ _ upd_same⟩⟩))
  refine ⟨tabs_sb (hd.keep sa) (hT.ext sa) (SB.but b2), fun H3 e3 t3' => ?_⟩
  have d3 := dice_ext d2 e3
  have eb3 := e2.trans (EB.ext e3)
  obtain ⟨t, htx, hto⟩ := (wr.eb eb3).tx (K := K)
  refine ⟨_, rfl, v9, t, rfl, htx, fun _ _ z => ?_, fun _ H4 s4 => .inl ⟨rfl, (by show 1 ≤ sizeLine; decide), fun p hp => ?_⟩⟩
  · rw [hto] at z
    cases z
  have d4 := d3.keep s4
  have eb4 := eb3.trans (EB.same s4)
  have sp := same_upd (o := .lst [.str "text"]) hp
  exact q3 D d a p zs v9 v _ _ _ _ _ _ _ H4 _ (d4.ne hp) hp ⟨d4.keep sp, (t3'.ext s4).ext sp, upd_same, EB.same sp⟩ d4 (sqT_eb hd eb4 ha) tz lz (wr.eb eb4) (od.eb ((EB.ext e3).trans (EB.same s4))) fun H' t' e' => q H' t' (eb4.trans e')
theorem right_D (L : Lib P w K mg base cX cP) (L2' : Lib2 P w K mg base T) (B : Tb base mg T c pT qRt) (hg : A.guards = some []) (hr : Room 8 (A.deeper (envOfC "_law_right" (defScope sRight) s.heap.objs.size f (.ref c)))) :
    ∃ t, PSs (XR P w K mg base f c A outer s H0 E) ((defBody sRight).drop 6) t ∧
      ∀ (D : Ends) (d a : Addr) (zs : List Str) (x1 x2 x3 x5 x6 x7 x8 x9 x10 x11 : Option V) (H : Hp), DiceAt H d → Tabs T H → SqT K H a (zs.map V.str) → (∀ z ∈ zs, isTerm z.cps.toList = true) → zs.length ≤ 61 →
        (∀ H', Tabs T H' → EB d H H' → D.rt (.bl true) H') → t D [some (.ref d), x1, x2, x3, some (.ref a), x5, x6, x7, x8, x9, x10, x11] H := by
  obtain ⟨t3, h3, q3⟩ := right_D1 L L2' B hg hr (P := P) (w := w) (f := f) (s := s) (outer := outer) (H0 := H0) (E := E)
  obtain ⟨fP, dP, GP, gP, kP, bP⟩ := L.pick
  have hr2 : Room 2 _ := hr.mono (by decide)
  refine ⟨_, pss_cons (ps_set (i := 9) scRt.nd rfl (Or.inr rfl) (pe_call GP hr2 rfl gP kP bP .nil pass0 (pa_cons (pv 0) (pa_cons (pe_lst (pa_cons pe_non (pa_cons pe_str (pa_cons (pe_lst (pa_cons pe_str pa_nil))
        (pa_cons (pe_tup (pa_cons pe_str pa_nil)) (pa_cons (pe_tup (pa_cons pe_str (pa_cons pe_int pa_nil))) (pa_cons (pe_tup (pa_cons pe_str pa_nil)) pa_nil))))))) pa_nil)))) h3, ?_⟩
  intro D d a zs x1 x2 x3 x5 x6 x7 x8 x9 x10 x11 H hd hT ha tz lz q
  refine ⟨_, rfl, (by show 1 ≤ sizeLine; decide), fun p1 n1 => ⟨(by show 1 ≤ sizeLine; decide), fun p2 n2 => ⟨(by show 2 ≤ sizeLine; decide), fun p3 n3 => ⟨(by show 1 ≤ sizeLine; decide), fun p4 n4 => ⟨(by show 6 ≤ sizeLine; decide), fun p5 n5 => ?_⟩⟩⟩⟩⟩
  have s1 := same_upd (o := .lst [.str "a"]) n1
  have s2 := same_upd (o := .tup [.str "E"]) n2
  have s3 := same_upd (o := .tup [.str "a", .int 0]) n3
  have s4 := same_upd (o := .tup [.str "$"]) n4
  have s5 := same_upd (o := .lst [.non, .str "a", .ref p1, .ref p2, .ref p3, .ref p4]) n5
  have d1 := hd.keep s1
  have d2 := d1.keep s2
  have d3 := d2.keep s3
  have d4 := d3.keep s4
  have sa := (((s1.trans s2).trans s3).trans s4).trans s5
  refine .inl ⟨d, p5, _, rfl, d4.keep s5, upd_same, d4.ne n5, (by show 0 < 6; decide), (by show 6 < 1000; decide), fun v H2 hv dd b2 => ?_⟩
  have e2 : EB d H H2 := (EB.same sa).trans (EB.sb (SB.but b2))
  have wr : Wr d H2 v := by
    refine Wr.eb (EB.sb (SB.but b2)) ?_
    simp only [List.mem_cons, List.not_mem_nil, or_false] at hv
    rcases hv with rfl | rfl | rfl | rfl | rfl | rfl
    · exact .inl rfl
    · exact .inr (.inl ⟨_, rfl⟩)
    · exact .inr (.inr ⟨p1, rfl, hd.ne n1, .inl ⟨_, (((s2.trans s3).trans s4).trans s5) _ _ upd_same⟩⟩)
    · exact .inr (.inr ⟨p2, rfl, d1.ne n2, .inr (.inl (((s3.trans s4).trans s5) _ _ upd_same))⟩)
    · exact .inr (.inr ⟨p3, rfl, d2.ne n3, .inr (.inr (.inl ((s4.trans s5) _ _ upd_same)))⟩)
    · exact .inr (.inr ⟨p4, rfl, d3.ne n4, .inr (.inr (.inr (s5 _ _ upd_same)))⟩)
  exact q3 D d a zs v _ _ _ _ _ _ _ _ _ H2 dd (tabs_sb (hd.keep sa) (hT.ext sa) (SB.but b2)) (sqT_eb hd e2 ha) tz lz wr fun H' t' e' => q H' t' (e2.trans e')
end
end LQ
set_option Elab.async false
set_option linter.all false
set_option maxRecDepth 100000
set_option maxHeartbeats 4000000
namespace LQ
open PySem PySem.Spec PyProof.Rows L2 CG CGX LamX
open PySem.AutoSeq1 (wpAny_loadPart')
/-- an empty tuple times a number: itself -/
theorem tuple_mulE (l : Addr) (items : Array Value) (n : Nat) (dd : Option Addr) (sl : Array (Option Value)) (x : Int) (u : Tok) (c0 : (decide (x < -(2 ^ 63)) || decide (x ≥ 2 ^ 63)) = false) (c1 : (items.isEmpty || x == 1) = true) :
    Meets (Builtin.«tuple.__mul__» ⟨[.ref l, .int x u], []⟩) (fun _ R s => s.heap.get? l = some { cls := .type "tuple", dict := dd, data := .seq items n, slots := sl } ∧ R (.ok (.ret (Value.ref l))) s) :=
  .of_wp fun prog w A R s h => by
    obtain ⟨hp, g, d, tk, os⟩ := s
    obtain ⟨hl, h⟩ := h
    have f1 := AutoSeq1.idx_int
    wp_walk using wpAny_loadPart' hl
    repeat (first
      | (refine wpAny_ite_false (decide_eq_false (by rw [c0]; exact Bool.false_ne_true)) ?_; wp_walk using wpAny_loadPart' hl)
      | (refine wpAny_ite_true (decide_eq_true c1) ?_; wp_walk using wpAny_loadPart' hl))
    exact ⟨_, rfl, h⟩
section
variable {X : Cx}
def rRep3 (K : PySem.W.Frag) : R2 := fun x y H Q => ∃ l xs, x = .ref l ∧ y = .int 3 ∧ SqT K H l xs ∧ xs.length ≤ 1000 ∧ (xs = [] → Q (.ref l) H) ∧ (xs ≠ [] → ∀ p, H p = none → Q (.ref p) (upd H p (.tup (List.replicate 3 xs).flatten)))
theorem op_rep3 : OpR X (binaryOp .Mult) (rRep3 X.K) := by
  intro pins s σ H x y v u Q I rx ry h
  obtain ⟨l, xs, rfl, rfl, hT, hz, q0, q1⟩ := h
  by_cases hx : xs = []
  · subst hx
    cases rx
    obtain ⟨t, rfl⟩ := ry
    obtain ⟨its, r, ⟨⟨cls, dd, data, sl⟩, ho, hc, n, hd⟩, hs⟩ := I.tuple hT
    simp only at hc hd
    subst hc hd
    cases r
    refine wpAny_binaryOp_repeat_ref (T := "tuple") (U := "int") (by decide) ⟨_, ho, rfl⟩ (fun s' => typeIs_int s' 3 t) noFill_tuple_mul F.fills_int_mul F.slot_int_rmul repeat_tuple F.slot_int_index.lookup
      (call_meets F.slot_int_rmul (typeIs_int s 3 t) F.entry_int_rmul (F.args_int_rmul_2 _ _) (int_rmul_tuple 3 t l _ n dd sl)
        ⟨ho, rfl, ⟨_, ho, rfl⟩, call_meets F.slot_tuple_mul ⟨_, ho, rfl⟩ F.entry_tuple_mul (F.args_tuple_mul_2 _ _) (tuple_mulE l _ n dd sl 3 t (by decide) (by decide)) ⟨ho, ?_⟩⟩)
    exact ⟨.ref l, H, I, rfl, q0 rfl⟩
  · exact op_repT pins s σ H _ _ v u Q I rx ry ⟨l, 3, xs, rfl, rfl, hT, hx, by decide, by decide, hz, q1 hx⟩
/-- a list == [] -/
theorem op_eqE (hu : X.A.units + 64 < cLine) : OpR X (compareOp .Eq) (fun x y H Q => ∃ a b xs, x = .ref a ∧ y = .ref b ∧ SqL X.K H a xs ∧ SqL X.K H b [] ∧ Q (.bl xs.isEmpty) H) := by
  intro pins s σ H x y v u Q I rx ry h
  obtain ⟨a, b, xs, rfl, rfl, ha, hb, q⟩ := h
  cases xs with
  | nil => exact op_eqD hu pins s σ H _ _ v u Q I rx ry ⟨.list [], .list [], .lst ha .nil, .lst hb .nil, by decide, by decide, q⟩
  | cons y ys =>
    cases rx
    cases ry
    obtain ⟨its, r, pl, hz⟩ := I.list ha
    obtain ⟨its2, r2, pl2, hz2⟩ := I.list hb
    have e1 := r.length
    have e2 := r2.length
    refine SeqAt.eq_list_lengthsAt pl.isList pl2.isList ?_ (by omega) ⟨.bl _, H, I, rfl, q⟩
    rw [List.size_toArray, List.size_toArray, ← e1, ← e2]
    rfl
end
end LQ
set_option Elab.async false
set_option linter.all false
set_option maxRecDepth 100000
set_option maxHeartbeats 4000000
namespace LQ
open PySem PySem.Spec PyProof.Rows L2 CG CGX LamX
open PySem.W (kitOne Frag exmOne findIn keepIn codeIn Datum)
section
variable {P : Program} {w : World} {K : Frag} {mg : Str → Option Value} {base : Heap} {cX cP : Addr} {T : List (Addr × Str)} {f c pT : Addr} {A : Around} {outer : List Env} {s : Shared} {H0 : Hp} {E : XK}
theorem right_C3 (L : Lib P w K mg base cX cP) (L2' : Lib2 P w K mg base T) (B : Tb base mg T c pT qRt) (hg : A.guards = some []) (hr : Room 8 (A.deeper (envOfC "_law_right" (defScope sRight) s.heap.objs.size f (.ref c)))) :
    ∃ t, PSs (XR P w K mg base f c A outer s H0 E) ((defBody sRight).drop 5) t ∧
      ∀ (D : Ends) (d a b : Addr) (zs ws : List Str) (x1 x2 x3 x6 x7 x8 x9 x10 x11 : Option V) (H : Hp), DiceAt H d → Tabs T H → SqT K H a (zs.map V.str) → (∀ z ∈ zs, isTerm z.cps.toList = true) → zs.length ≤ 61 → SqT K H b (ws.map V.str) → (∀ z ∈ ws, isTerm z.cps.toList = true) →
        (∀ H', Tabs T H' → EB d H H' → D.rt (.bl true) H') → t D [some (.ref d), x1, x2, x3, some (.ref a), some (.ref b), x6, x7, x8, x9, x10, x11] H := by
  obtain ⟨t3, h3, q3⟩ := right_D L L2' B hg hr (P := P) (w := w) (f := f) (s := s) (outer := outer) (H0 := H0) (E := E)
  obtain ⟨fO, dO, GO, gO, kO, bO⟩ := L.ord
  have hr6 : Room 6 _ := hr.mono (by decide)
  refine ⟨_, pss_cons (ps_if (PW.pt (pw_and (pt_cmpR op_le (pe_callB call_len_seq (by rfl) L.lw.len PySem.boot_len (pa_cons (pv 4) pa_nil)) pe_int (nomark _))
      (pw_and (pt_cmpR op_le (pe_callB call_len_seq (by rfl) L.lw.len PySem.boot_len (pa_cons (pv 5) pa_nil)) pe_int (nomark _))
      (pw_and1 (pt_not (PW.pt (pw_and (pt_val (pe_call GO hr6 rfl gO kO bO .nil pass0 (pa_cons (pv 4) (pa_cons (pv 5) pa_nil)))) (pw_and1 (pt_val (pe_call GO hr6 rfl gO kO bO .nil pass0 (pa_cons (pv 4) (pa_cons (pv 4) pa_nil))))))))))))
      (pss_one (ps_ret pe_bl)) pss_nil) h3, ?_⟩
  intro D d a b zs ws x1 x2 x3 x6 x7 x8 x9 x10 x11 H hd hT ha tz lz hb tw q
  have on : ∀ H1, Same H H1 → t3 D [some (.ref d), x1, x2, x3, some (.ref a), some (.ref b), x6, x7, x8, x9, x10, x11] H1 := fun H1 s1 => q3 D d a zs _ _ _ _ _ _ _ _ _ _ H1 (hd.keep s1) (hT.ext s1) (sqT_same s1 ha) tz lz fun H' t' e' => q H' t' ((EB.same s1).trans e')
  refine ⟨_, rfl, a, _, rfl, .inr ha, _, _, rfl, rfl, _, rfl, ite2 (fun h1 => ?_) (fun h1 => ?_)⟩
  · have g1 := of_decide_eq_true h1
    rw [List.length_map] at g1
    refine ⟨_, rfl, b, _, rfl, .inr hb, _, _, rfl, rfl, _, rfl, ite2 (fun h2 => ?_) (fun h2 => ?_)⟩
    · have g2 := of_decide_eq_true h2
      rw [List.length_map] at g2
      refine ⟨_, rfl, _, rfl, a, b, zs, ws, rfl, ha, hb, tz, tw, (by omega), (by omega), fun H1 s1 => ⟨_, rfl, iteT ?_⟩⟩
      exact ⟨_, rfl, _, rfl, a, a, zs, zs, rfl, sqT_same s1 ha, sqT_same s1 ha, tz, tz, (by omega), (by omega), fun H2 s2 => ⟨_, rfl, iteF (on H2 (s1.trans s2))⟩⟩
    · exact iteF (on H (Same.rfl' H))
  · exact iteF (on H (Same.rfl' H))
def Mo (K : Frag) (H : Hp) (v : V) : Prop := ∃ t, Tx K H v t
theorem filt_any (os : List (Option Str)) (xs : List V) : ((((List.range os.length).filter fun i => !lO isTerm ((os[i]?).getD none)).map fun i => xs.getD i V.non)).isEmpty = os.all (lO isTerm) := by
  rw [Bool.eq_iff_iff, List.isEmpty_iff, List.map_eq_nil_iff, List.filter_eq_nil_iff, List.all_eq_true]
  constructor
  · intro h x hx
    obtain ⟨i, hi, rfl⟩ := List.mem_iff_getElem.mp hx
    have := h i (List.mem_range.mpr hi)
    rw [List.getElem?_eq_getElem hi] at this
    simpa using this
  · intro h i hi
    have hi' := List.mem_range.mp hi
    rw [List.getElem?_eq_getElem hi']
    have := h _ (List.getElem_mem hi')
    simpa using this
theorem right_C2 (L : Lib P w K mg base cX cP) (L2' : Lib2 P w K mg base T) (B : Tb base mg T c pT qRt) (sy : Sy mg) (hg : A.guards = some []) (hr : Room 8 (A.deeper (envOfC "_law_right" (defScope sRight) s.heap.objs.size f (.ref c)))) :
    ∃ t, PSs (XR P w K mg base f c A outer s H0 E) ((defBody sRight).drop 4) t ∧
      ∀ (D : Ends) (d a b m : Addr) (vs : List V) (zs ws : List Str) (x1 x2 x3 x7 x8 x9 x10 x11 : Option V) (H : Hp), DiceAt H d → Tabs T H → SqT K H a (zs.map V.str) → (∀ z ∈ zs, isTerm z.cps.toList = true) → zs.length ≤ 61 → SqT K H b (ws.map V.str) → (∀ z ∈ ws, isTerm z.cps.toList = true) →
        H m = some (.lst vs) → (∀ v ∈ vs, Mo K H v) → (∀ H', Tabs T H' → EB d H H' → D.rt (.bl true) H') → t D [some (.ref d), x1, x2, x3, some (.ref a), some (.ref b), some (.ref m), x7, x8, x9, x10, x11] H := by
  obtain ⟨t3, h3, q3⟩ := right_C3 L L2' B hg hr (P := P) (w := w) (f := f) (s := s) (outer := outer) (H0 := H0) (E := E)
  obtain ⟨fI, dI, GI, gI, kI, bI⟩ := L.istold
  obtain ⟨fT, dT, GT, gT, kT, bT⟩ := L.terms
  have hr2 : Room 2 _ := hr.mono (by decide)
  have hr4 : Room 4 _ := hr.mono (by decide)
  refine ⟨_, pss_cons (ps_for PassesOwn.never rfl (pi_list (pv 6)) (pg_name (i := 3) scRt.nd rfl (Or.inl rfl))
      (pss_cons (ps_set (i := 7) scRt.nd rfl (Or.inl rfl) (pe_and (pe_callB call_isi (by rfl) L.lw.isi PyProof.Rows.boot_isinstance (pa_cons (pv 3) (pa_cons (pe_bltn (v := .ty "tuple") (by rfl) sy.tuple PyProof.Rows.boot_tuple rfl) pa_nil)))
        (pe_one (pe_cmpR op_le (pe_callB call_len_seq (by rfl) L.lw.len PySem.boot_len (pa_cons (pv 3) pa_nil)) pe_int (nomark _)))))
      (pss_cons (ps_set (i := 7) scRt.nd rfl (Or.inl rfl) (pe_and (pv 7) (pe_one (pe_cmpR (op_eqE hr.units) (pe_lc (own := [("_law_one", 8)]) (g := gName 8) rfl scRt.nd (pi_tup (pv 3))
          (blkOk_by (N := NRt) (sc := defScope sRight) (by decide +kernel)) (fun _ _ _ _ _ => pg_name (i := 8) scRt.nd rfl (Or.inl rfl))
          (fun _ _ _ _ _ => pts_one (pt_not (pt_val (pe_call GI hr2 rfl gI kI bI .nil pass0 (pa_cons (pv 8) pa_nil))))) (fun _ _ _ _ _ => pv 8)) (pe_lst pa_nil) (nomark _)))))
      (pss_one (ps_if (pt_cmpR op_ne (pe_callB call_reprBl (by rfl) L.ex.repr PyProof.Rows.boot_repr (pa_cons (pe_call GT hr4 rfl gT kT bT .nil pass0 (pa_cons (pv 3) pa_nil)) pa_nil))
        (pe_callB call_reprBl (by rfl) L.ex.repr PyProof.Rows.boot_repr (pa_cons (pv 7) pa_nil)) (nomark _)) (pss_one (ps_ret pe_bl)) pss_nil))))) h3, ?_⟩
  intro D d a b m vs zs ws x1 x2 x3 x7 x8 x9 x10 x11 H hd hT ha tz lz hb tw hm mo q
  refine ⟨_, rfl, m, rfl, ⟨_, SqL.of hm⟩, for_list (xs := vs) (fun i σ H' => ∃ y3 y7, σ = [some (.ref d), x1, x2, y3, some (.ref a), some (.ref b), some (.ref m), y7, x8, x9, x10, x11] ∧ Same H H') ⟨x3, x7, rfl, Same.rfl' H⟩
    (fun i σ H' _ z => by obtain ⟨_, _, _, z⟩ := z; exact z.seq (SqL.of hm)) ?_ ?_⟩
  · rintro i v σ H' hv ⟨y3, y7, rfl, same⟩
    obtain ⟨t, tx0⟩ := mo v (List.mem_of_getElem? hv)
    have tx := tx0.mono same
    -- the last statement of the turn
    have last : ∀ (D : Ends) (bb : Bool) H2, Same H' H2 → bb = termsO t → (∀ H3, Same H2 H3 → D.nx [some (.ref d), x1, x2, some v, some (.ref a), some (.ref b), some (.ref m), some (.bl bb), x8, x9, x10, x11] H3) → tIfS (tTest (tOp rNe (tCB (fun xs H Q => ∃ b, xs = [.bl b] ∧ Q (.str (bStr b)) H) (tCons (tCall (spTs K) [] E0 (tCons (tVar 3) tNil)) tNil))
        (tCB (fun xs H Q => ∃ b, xs = [.bl b] ∧ Q (.str (bStr b)) H) (tCons (tVar 7) tNil)))) (tRet (tC (.bl false))) tNext D [some (.ref d), x1, x2, some v, some (.ref a), some (.ref b), some (.ref m), some (.bl bb), x8, x9, x10, x11] H2 := by
      rintro D bb H2 s2 rfl nx
      refine ⟨_, rfl, v, t, rfl, tx.mono s2, fun H3 s3 => ⟨_, rfl, _, rfl, _, rfl, rfl, _, rfl, ?_⟩⟩
      rw [decide_eq_true rfl]
      exact iteF (nx H3 s3)
    obtain ⟨u, ty, kt⟩ := isi_tup tx
    refine ⟨_, rfl, v, _, u, _, _, rfl, .ty _, ty, kt, _, rfl, ?_⟩
    cases t with
    | none =>
      refine iteF ?_
      refine ⟨_, rfl, _, rfl, iteF ?_⟩
      exact last _ false H' (Same.rfl' _) rfl fun H3 s3 => ⟨some v, _, rfl, same.trans s3⟩
    | some os =>
      obtain ⟨p, xs, rfl, hq, pr, hl⟩ := tx
      have el := pr.length
      refine iteT ?_
      refine ⟨_, rfl, p, xs, rfl, .inr hq, _, _, rfl, rfl, _, rfl, _, rfl, ite2 (fun h1 => ?_) (fun h1 => ?_)⟩
      · have g1 := of_decide_eq_true h1
        have eo : termsO (some os) = os.all (lO isTerm) := by
          show (decide (os.length ≤ 60) && _) = _
          rw [decide_eq_true (by omega), Bool.true_and]
        refine ⟨_, rfl, p, rfl, ⟨xs, hq⟩, fun Dd nD => ?_⟩
        refine lc_gen (walk_tup (xs := xs)) (fun i => !lO isTerm ((os[i]?).getD none)) (fun i => xs.getD i .non) (line20000 hl) nD (fun _ => rfl) (fun H2 s2 => sqT_same s2 hq) ?_ ?_
        · rintro j x H2 H2' hj s2 ⟨rfl, hx⟩
          obtain ⟨o, ho, sx⟩ := paired_at pr j x hx
          have ex : xs.getD j .non = x := by rw [List.getD_eq_getElem?_getD, hx]; rfl
          rw [ex, ho]
          exact ⟨rfl, fun R h => ⟨_, rfl, x, o, rfl, sx.mono s2, fun H4 s4 => ⟨_, rfl, h H4 s4⟩⟩, fun _ H3 s3 R h => ⟨_, rfl, h _ (Same.rfl' _)⟩⟩
        · intro H2 s2 at2
          rw [el] at at2
          refine ⟨by decide, fun p2 hp2 => ⟨Dd, p2, _, rfl, rfl, SqL.of ((same_upd hp2) _ _ at2), SqL.of upd_same, ?_⟩⟩
          rw [filt_any]
          exact last _ _ _ (s2.trans (same_upd hp2)) eo.symm fun H3 s3 => ⟨some _, _, rfl, ((same.trans s2).trans (same_upd hp2)).trans s3⟩
      · have g1 := mt decide_eq_true h1
        have eo : termsO (some os) = false := by
          show (decide (os.length ≤ 60) && _) = _
          rw [decide_eq_false (by omega), Bool.false_and]
        exact last _ _ H' (Same.rfl' _) (by rw [eo]) fun H3 s3 => ⟨some _, _, rfl, same.trans s3⟩
  · rintro σ H' ⟨y3, y7, rfl, same⟩
    exact q3 D d a b zs ws _ _ _ _ _ _ _ _ _ H' (hd.keep same) (hT.ext same) (sqT_same same ha) tz lz (sqT_same same hb) tw fun H2 t2 e2 => q H2 t2 ((EB.same same).trans e2)
end
end LQ
set_option Elab.async false
set_option linter.all false
set_option maxRecDepth 100000
set_option maxHeartbeats 4000000
namespace LQ
open PySem PySem.Spec PyProof.Rows L2 CG CGX LamX
open PySem.W (kitOne Frag exmOne findIn keepIn codeIn Datum)
theorem cat1 {K : Frag} {H : Hp} {a p : Addr} {xs : List V} {v : V} {Q : VK} (ha : SqT K H a xs) (hp : SqT K H p [v]) (hl : xs.length ≤ 1000) (q : ∀ r H', Same H H' → SqT K H' r (xs ++ [v]) → Q (.ref r) H') : rCatA K (.ref a) (.ref p) H Q := by
  refine ⟨a, p, xs, [v], rfl, rfl, ha, hp, Nat.le_trans (Nat.add_le_add_right hl 1) (by decide), fun e => ?_, fun _ e => (nomatch e), fun _ _ r hr => q r _ (same_upd hr) (SqT.of upd_same)⟩
  subst e
  exact q p H (Same.rfl' H) hp
theorem sl1 {K : Frag} {H : Hp} {a : Addr} {zs : List Str} (ha : SqT K H a (zs.map V.str)) {Q : VK} (q : ∀ b H', Same H H' → SqT K H' b ((zs.take 1).map V.str) → Q (.ref b) H') : rSlA K (.ref a) none (some 1) H Q := by
  refine ⟨a, _, rfl, ha, fun e => ?_, fun ne p hp => ?_⟩
  · have h2 : min 1 (zs.map V.str).length = (zs.map V.str).length := e.2
    rw [List.length_map] at h2
    refine q a H (Same.rfl' H) ?_
    rw [List.take_of_length_le (by omega)]
    exact ha
  · refine q p _ (same_upd hp) ?_
    have e : cutV (zs.map V.str) none (some 1) = (zs.take 1).map V.str := by
      show ((zs.map V.str).drop 0).take (min 1 (zs.map V.str).length - 0) = _
      rw [List.drop_zero, Nat.sub_zero, List.map_take, List.length_map]
      by_cases h : 1 ≤ zs.length
      · rw [Nat.min_eq_left h]
      · rw [Nat.min_eq_right (by omega), List.take_of_length_le (by rw [List.length_map]; omega), List.take_of_length_le (by rw [List.length_map]; omega)]
    rw [← e]
    exact SqT.of upd_same
theorem rep3 {K : Frag} {H : Hp} {a : Addr} {zs : List Str} (ha : SqT K H a (zs.map V.str)) (hl : zs.length ≤ 1000) {Q : VK} (q : ∀ b H', Same H H' → SqT K H' b (((List.replicate 3 zs).flatten).map V.str) → Q (.ref b) H') : rRep3 K (.ref a) (.int 3) H Q := by
  have e : (List.replicate 3 (zs.map V.str)).flatten = ((List.replicate 3 zs).flatten).map V.str := by
    simp [List.replicate]
  refine ⟨a, _, rfl, rfl, ha, by rw [List.length_map]; exact hl, fun h => ?_, fun _ p hp => q p _ (same_upd hp) (by rw [← e]; exact SqT.of upd_same)⟩
  refine q a H (Same.rfl' H) ?_
  have : zs = [] := List.map_eq_nil_iff.mp h
  subst this
  exact ha
theorem paired_app {α β : Type} {R : α → β → Prop} : ∀ {xs : List α} {ys : List β} {x : α} {y : β}, Paired R xs ys → R x y → Paired R (xs ++ [x]) (ys ++ [y])
  | _, _, _, _, .nil, h => .cons h .nil
  | _, _, _, _, .cons a t, h => .cons a (paired_app t h)
section
variable {P : Program} {w : World} {K : Frag} {mg : Str → Option Value} {base : Heap} {cX cP : Addr} {T : List (Addr × Str)} {f c pT : Addr} {A : Around} {outer : List Env} {s : Shared} {H0 : Hp} {E : XK}
theorem right_C1 (L : Lib P w K mg base cX cP) (L2' : Lib2 P w K mg base T) (B : Tb base mg T c pT qRt) (sy : Sy mg) (hg : A.guards = some []) (hr : Room 8 (A.deeper (envOfC "_law_right" (defScope sRight) s.heap.objs.size f (.ref c)))) :
    ∃ t, PSs (XR P w K mg base f c A outer s H0 E) ((defBody sRight).drop 3) t ∧
      ∀ (D : Ends) (d a b : Addr) (zs ws : List Str) (x1 x2 x3 x6 x7 x8 x9 x10 x11 : Option V) (H : Hp), DiceAt H d → Tabs T H → SqT K H a (zs.map V.str) → (∀ z ∈ zs, isTerm z.cps.toList = true) → zs.length ≤ 61 → SqT K H b (ws.map V.str) → (∀ z ∈ ws, isTerm z.cps.toList = true) →
        (∀ H', Tabs T H' → EB d H H' → D.rt (.bl true) H') → t D [some (.ref d), x1, x2, x3, some (.ref a), some (.ref b), x6, x7, x8, x9, x10, x11] H := by
  obtain ⟨t3, h3, q3⟩ := right_C2 L L2' B sy hg hr (P := P) (w := w) (f := f) (s := s) (outer := outer) (H0 := H0) (E := E)
  refine ⟨_, pss_cons (ps_set (i := 6) scRt.nd rfl (Or.inl rfl) (pe_lst (pa_cons (pv 4) (pa_cons (pe_callTy call_list_of (by rfl) L.lw.list PyProof.Rows.boot_list (pa_cons (pv 4) pa_nil))
      (pa_cons (pe_op op_catA (pv 4) (pe_tup (pa_cons pe_non pa_nil))) (pa_cons (pe_op op_catA (pv 4) (pe_tup (pa_cons pe_str pa_nil)))
      (pa_cons (pe_op op_rep3 (pe_slice sl_tupA (pv 4) po_none (po_some pe_int)) pe_int) (pa_cons pe_str (pa_cons pe_non (pa_cons pe_dnewK (pa_cons (pe_tup (pa_cons pe_int pa_nil))
      (pa_cons (pe_tup (pa_cons (pe_tup (pa_cons pe_str pa_nil)) pa_nil)) pa_nil)))))))))))) h3, ?_⟩
  intro D d a b zs ws x1 x2 x3 x6 x7 x8 x9 x10 x11 H hd hT ha tz lz hb tw q
  have lm : (zs.map V.str).length ≤ 1000 := by rw [List.length_map]; omega
  refine ⟨_, rfl, _, rfl, a, _, rfl, .inr ha, fun l1 n1 => ⟨_, rfl, (by show 1 ≤ sizeLine; decide), fun p3 n3 => ?_⟩⟩
  have s1 := same_upd (o := .lst (zs.map V.str)) n1
  have s3 := s1.trans (same_upd (o := .tup [.non]) n3)
  refine cat1 (sqT_same s3 ha) (SqT.of upd_same) lm fun r3 H3 u3 hr3 => ⟨_, rfl, (by show 1 ≤ sizeLine; decide), fun p4 n4 => ?_⟩
  have s4 := (s3.trans u3).trans (same_upd (o := .tup [.str "E"]) n4)
  refine cat1 (sqT_same s4 ha) (SqT.of upd_same) lm fun r4 H4 u4 hr4 => ⟨_, rfl, 1, rfl, sl1 (sqT_same (s4.trans u4) ha) fun r5 H5 u5 hr5 => ?_⟩
  dsimp only [tC]
  refine rep3 hr5 (Nat.le_trans (List.length_take_le 1 zs) (by decide)) fun r6 H6 u6 hr6 => ?_
  intro p8 n8
  refine ⟨(by show 1 ≤ sizeLine; decide), fun p9 n9 => ⟨(by show 1 ≤ sizeLine; decide), fun p10 n10 => ⟨(by show 1 ≤ sizeLine; decide), fun p11 n11 => ⟨(by show 10 ≤ sizeLine; decide), fun m hm => ?_⟩⟩⟩⟩
  have v8 := same_upd (o := .dK []) n8
  have v9 := same_upd (o := .tup [.int 1]) n9
  have v10 := same_upd (o := .tup [.str "a"]) n10
  have v11 := same_upd (o := .tup [.ref p10]) n11
  have vm := same_upd (o := .lst [.ref a, .ref l1, .ref r3, .ref r4, .ref r6, .str "a", .non, .ref p8, .ref p9, .ref p11]) hm
  have t9 := (v10.trans v11).trans vm
  have t8 := v9.trans t9
  have t6 := v8.trans t8
  have t4 := (u5.trans u6).trans t6
  have t3' := (((same_upd (o := .tup [.str "E"]) n4).trans u4).trans t4)
  have all := (s4.trans u4).trans t4
  have l1s := (((same_upd (o := .tup [.non]) n3).trans u3).trans t3')
  refine q3 D d a b m _ zs ws _ _ _ _ _ _ _ _ _ (hd.keep all) (hT.ext all) (sqT_same all ha) tz lz (sqT_same all hb) tw upd_same (fun v hv => ?_) fun H' t' e' => q H' t' ((EB.same all).trans e')
  simp only [List.mem_cons, List.not_mem_nil, or_false] at hv
  have ps : ∀ {H : Hp}, Paired (Sx K H) (zs.map V.str) (zs.map some) := paired_strs zs fun p hp => by rw [len_cps]; have := (term_len (tz p hp)).2; omega
  rcases hv with rfl | rfl | rfl | rfl | rfl | rfl | rfl | rfl | rfl | rfl
  · exact ⟨_, tx_row (sqT_same all ha) tz (by omega)⟩
  · exact ⟨none, ⟨_, .base (.lst (l1s _ _ upd_same)), rfl⟩⟩
  · exact ⟨some (zs.map some ++ [none]), ⟨r3, _, rfl, sqT_same t3' hr3, paired_app ps ⟨_, .base .non, rfl⟩, by rw [List.length_append]; exact Nat.le_trans (Nat.add_le_add_right lm 1) (by decide)⟩⟩
  · exact ⟨some (zs.map some ++ [some (Str.ofString "E")]), ⟨r4, _, rfl, sqT_same t4 hr4, paired_app ps ⟨rfl, by decide +kernel⟩, by rw [List.length_append]; exact Nat.le_trans (Nat.add_le_add_right lm 1) (by decide)⟩⟩
  · refine ⟨_, tx_row (sqT_same t6 hr6) (fun z hz => ?_) ?_⟩
    · obtain ⟨y, hy, hz⟩ := List.mem_flatten.mp hz
      rw [(List.mem_replicate.mp hy).2] at hz
      exact tz z (List.mem_of_mem_take hz)
    · have : ((List.replicate 3 (zs.take 1)).flatten).length = 3 * (zs.take 1).length := by simp [List.replicate]; omega
      have := List.length_take_le 1 zs
      omega
  · exact ⟨none, ⟨_, .base (.str _), rfl⟩⟩
  · exact ⟨none, ⟨_, .base .non, rfl⟩⟩
  · exact ⟨none, ⟨_, .base (.dK (t8 _ _ upd_same)), rfl⟩⟩
  · exact ⟨some [none], ⟨p9, _, rfl, SqT.of (t9 _ _ upd_same), .cons ⟨_, .base (.int 1), rfl⟩ .nil, by decide⟩⟩
  · exact ⟨some [none], ⟨p11, _, rfl, SqT.of (vm _ _ upd_same), .cons ⟨_, .base (.tup ((v11.trans vm) _ _ upd_same)), rfl⟩ .nil, Nat.succ_le_of_lt (show 0 < 20000 by decide)⟩⟩
theorem right_B (L : Lib P w K mg base cX cP) (L2' : Lib2 P w K mg base T) (B : Tb base mg T c pT qRt) (sy : Sy mg) (hg : A.guards = some []) (hr : Room 8 (A.deeper (envOfC "_law_right" (defScope sRight) s.heap.objs.size f (.ref c)))) :
    ∃ t, PSs (XR P w K mg base f c A outer s H0 E) ((defBody sRight).drop 2) t ∧
      ∀ (D : Ends) (d : Addr) (x1 x2 x3 x4 x5 x6 x7 x8 x9 x10 x11 : Option V) (H : Hp), DiceAt H d → Tabs T H →
        (∀ H', Tabs T H' → EB d H H' → D.rt (.bl true) H') → t D [some (.ref d), x1, x2, x3, x4, x5, x6, x7, x8, x9, x10, x11] H := by
  obtain ⟨t3, h3, q3⟩ := right_C1 L L2' B sy hg hr (P := P) (w := w) (f := f) (s := s) (outer := outer) (H0 := H0) (E := E)
  obtain ⟨fR, dR, GR, gR, kR, bR⟩ := L.row
  have hr3 : Room 3 _ := hr.mono (by decide)
  refine ⟨_, pss_cons (ps_asg (pe_tup (pa_cons (pe_call GR hr3 rfl gR kR bR .nil pass0 (pa_cons (pv 0) pa_nil)) (pa_cons (pe_call GR hr3 rfl gR kR bR .nil pass0 (pa_cons (pv 0) pa_nil)) pa_nil)))
      (pg_tup rfl (pgs_cons (pg_name (i := 4) scRt.nd rfl (Or.inr rfl)) (pgs_cons (pg_name (i := 5) scRt.nd rfl (Or.inl rfl)) pgs_nil)))) h3, ?_⟩
  intro D d x1 x2 x3 x4 x5 x6 x7 x8 x9 x10 x11 H hd hT q
  refine ⟨_, rfl, d, rfl, hd, fun a zs H1 lz tz at1 n1 d1 s1 => ⟨_, rfl, d, rfl, d1, fun b ws H2 lw tw at2 n2 d2 s2 => ⟨(by show 2 ≤ sizeLine; decide), fun t ht => ?_⟩⟩⟩
  have na : a ≠ d := fun z => by
    obtain ⟨x, y, v, e⟩ := d1
    rw [z, e] at at1
    cases at1
  have st := same_upd (o := .tup [.ref a, .ref b]) ht
  have eb : EB d H _ := ((EB.sb s1).trans (EB.sb s2)).trans (EB.same st)
  have tb := (tabs_sb d1 (tabs_sb hd hT s1) s2).ext st
  exact ⟨t, _, rfl, SqT.of upd_same, rfl, _, _, rfl, _, _, rfl, rfl, q3 D d a b zs ws _ _ _ _ _ _ _ _ _ _ (d2.keep st) tb (SqT.of (st _ _ (s2 _ _ na at1))) tz lz (SqT.of (st _ _ at2)) tw fun H' t' e' => q H' t' (eb.trans e')⟩
end
end LQ
set_option Elab.async false
set_option linter.all false
set_option maxRecDepth 100000
set_option maxHeartbeats 4000000
namespace LQ
open PySem PySem.Spec PyProof.Rows L2 CG CGX LamX
open PySem.W (kitOne Frag exmOne findIn keepIn codeIn Datum)
abbrev b3 (x y z : Bool) : PyData := .list [.bool x, .bool y, .bool z]
theorem b3_ok : ∀ x y z : Bool, (b3 x y z).showable = true ∧ (b3 x y z).depth ≤ 2 ∧ (b3 x y z).shown.length ≤ 1000 ∧ (b3 x y z).hasDict = false := by decide +kernel
theorem reads_b3 {X : Cx} {H : Hp} {p : Addr} {x y z : Bool} (h : H p = some (.lst [.bl x, .bl y, .bl z])) : ReadsAs X H (.ref p) (b3 x y z) := fun pins σ s u I r => by
  obtain ⟨as, q⟩ := Dp.reads I _ _ _ (.lst (SqL.of h) (.cons (.bl x) (.cons (.bl y) (.cons (.bl z) .nil)))) r
  exact ⟨as, q, fun w => by rw [(b3_ok x y z).2.2.2] at w; cases w⟩
def spRight (K : Frag) (T : List (Addr × Str)) : Sp := fun vs H Q _ => ∃ d : Addr, vs = [.ref d] ∧ DiceAt H d ∧ Tabs T H ∧ ∀ H', Tabs T H' → EB d H H' → Q (.bl true) H'
section
variable {P : Program} {w : World} {K : Frag} {mg : Str → Option Value} {base : Heap} {cX cP : Addr} {T : List (Addr × Str)} {c pT : Addr}
theorem ok_right {f : Addr} {fd : FuncData} (F : FunC K "_law_right" "_law_right" sRight f fd c) (L : Lib P w K mg base cX cP) (L2' : Lib2 P w K mg base T) (B : Tb base mg T c pT qRt) (sy : Sy mg) :
    FnG P w K mg base CX0 9 f fd ["_law_dice_here"] (spRight K T) := by
  refine fnC_of (N := NRt) F scRt (fun vs H Q E h => ?_) (fun A outer s H vs Q E hr hg h => ?_)
  · obtain ⟨d, rfl, _⟩ := h
    rfl
  · obtain ⟨d, rfl, hd, hT, q⟩ := h
    obtain ⟨tB', hB, qB⟩ := right_B L L2' B sy hg hr (P := P) (w := w) (f := f) (s := s) (outer := outer) (H0 := H) (E := E)
    obtain ⟨fR, dR, GR, gR, kR, bR⟩ := L.roll
    obtain ⟨fP, dP, GP, gP, kP, bP⟩ := L.pick
    obtain ⟨fW, dW, GW, gW, kW, bW⟩ := L.word
    obtain ⟨f1, d1, G1, g1, k1, b1⟩ := L.term
    obtain ⟨f2, d2, G2, g2, k2, b2⟩ := L.nont
    obtain ⟨f3, d3, G3, g3, k3, b3'⟩ := L.name
    obtain ⟨f4, d4, G4, g4, k4, b4⟩ := L.told
    have hr1 : Room 1 _ := hr.mono (by decide)
    have hr2 : Room 2 _ := hr.mono (by decide)
    have hr3 : Room 3 _ := hr.mono (by decide)
    refine ⟨_, PSs.nox (pss_cons (ps_set (i := 1) scRt.nd rfl (Or.inl rfl) (pe_lst (pa_cons pe_non (pa_cons pe_int (pa_cons pe_bl (pa_cons pe_int (pa_cons (pe_tup (pa_cons pe_str pa_nil)) (pa_cons (pe_lst (pa_cons pe_str pa_nil))
          (pa_cons (pe_disp (pps_cons pe_str pe_int pps_nil) (by rfl) (by rfl) (fun z => by cases z) (by decide)) (pa_cons (pe_op op_pow pe_int pe_int) pa_nil))))))))))
      (pss_cons (ps_for PassesOwn.never rfl (pi_range1 rfl L.lr.range (pa_cons pe_int pa_nil)) (pg_name (i := 2) scRt.nd rfl (Or.inl rfl))
        (pss_cons (ps_set (i := 3) scRt.nd rfl (Or.inl rfl) (pe_ifExp (pt_cmpR op_gt (pe_call GR hr1 rfl gR kR bR .nil pass0 (pa_cons (pv 0) (pa_cons pe_int pa_nil))) pe_int (nomark _))
          (pe_call GW hr3 rfl gW kW bW .nil pass0 (pa_cons (pv 0) pa_nil)) (pe_call GP hr2 rfl gP kP bP .nil pass0 (pa_cons (pv 0) (pa_cons (pv 1) pa_nil)))))
        (pss_one (ps_if (pt_cmpR op_ne (pe_callB (call_repr_data hg) (by rfl) L.ex.repr PyProof.Rows.boot_repr (pa_cons (pe_lst (pa_cons (pe_call G1 hr3 rfl g1 k1 b1 .nil pass0 (pa_cons (pv 3) pa_nil))
            (pa_cons (pe_call G2 hr2 rfl g2 k2 b2 .nil pass0 (pa_cons (pv 3) pa_nil)) (pa_cons (pe_call G3 hr3 rfl g3 k3 b3' .nil pass0 (pa_cons (pv 3) pa_nil)) pa_nil)))) pa_nil))
          (pe_callB (call_repr_data hg) (by rfl) L.ex.repr PyProof.Rows.boot_repr (pa_cons (pe_call G4 hr3 rfl g4 k4 b4 .nil pass0 (pa_cons (pv 3) pa_nil)) pa_nil)) (nomark _)) (pss_one (ps_ret pe_bl)) pss_nil)))) hB)), ?_⟩
    refine ⟨(by show 1 ≤ sizeLine; decide), fun p1 n1 => ⟨(by show 1 ≤ sizeLine; decide), fun p2 n2 => fun p3 n3 => ⟨upd_same, [(.inr "a", .int 1)], rfl, by decide, ?_⟩⟩⟩
    refine ⟨_, _, rfl, rfl, ⟨by decide, by decide, by decide⟩, (by show 8 ≤ sizeLine; decide), fun po no => ?_⟩
    have s1 := same_upd (o := .tup [.str "a"]) n1
    have s2 := same_upd (o := .lst [.str "a"]) n2
    have s3 := same_upd (o := .dK []) n3
    obtain ⟨Hd, eHd⟩ : ∃ Hd, Hd = upd (upd (upd (upd H p1 (.tup [.str "a"])) p2 (.lst [.str "a"])) p3 (.dK [])) p3 (.dK (mergeK [] [(.inr "a", .int 1)])) := ⟨_, rfl⟩
    rw [← eHd] at no ⊢
    have s4 : Same (upd (upd H p1 (.tup [.str "a"])) p2 (.lst [.str "a"])) Hd := fun b o e => by
      have nb : b ≠ p3 := ne_of_none e n3
      rw [eHd, upd_ne nb, upd_ne nb]
      exact e
    have z3 : Hd p3 = some (.dK (mergeK [] [(.inr "a", .int 1)])) := by rw [eHd]; exact upd_same
    have so := same_upd (o := .lst [.non, .int 0, .bl true, .int 1, .ref p1, .ref p2, .ref p3, (fun (i j : Int) => V.int (i ^ j.toNat)) 10 30]) no
    have z0 : upd Hd po (.lst [.non, .int 0, .bl true, .int 1, .ref p1, .ref p2, .ref p3, (fun (i j : Int) => V.int (i ^ j.toNat)) 10 30]) po = some (.lst [.non, .int 0, .bl true, .int 1, .ref p1, .ref p2, .ref p3, (fun (i j : Int) => V.int (i ^ j.toNat)) 10 30]) := upd_same
    have z1 := (s2.trans s4).trans so
    have z2 := s4.trans so
    have sH := (s1.trans s2).trans (s4.trans so)
    have dd1 := hd.keep s1
    have dd2 := dd1.keep s2
    have dd3 := dd2.keep s4
    have npo := dd3.ne no
    have od0 : ∀ v ∈ [V.non, .int 0, .bl true, .int 1, .ref p1, .ref p2, .ref p3, (fun (i j : Int) => V.int (i ^ j.toNat)) 10 30], Od d (upd Hd po (.lst [.non, .int 0, .bl true, .int 1, .ref p1, .ref p2, .ref p3, (fun (i j : Int) => V.int (i ^ j.toNat)) 10 30])) v := by
      intro v hv
      simp only [List.mem_cons, List.not_mem_nil, or_false] at hv
      rcases hv with rfl | rfl | rfl | rfl | rfl | rfl | rfl | rfl
      · exact .inl rfl
      · exact .inr (.inl ⟨_, rfl⟩)
      · exact .inr (.inr (.inl ⟨_, rfl⟩))
      · exact .inr (.inl ⟨_, rfl⟩)
      · exact .inr (.inr (.inr ⟨p1, rfl, hd.ne n1, .inr (.inl ⟨_, z1 _ _ upd_same⟩)⟩))
      · exact .inr (.inr (.inr ⟨p2, rfl, dd1.ne n2, .inl ⟨_, z2 _ _ upd_same⟩⟩))
      · exact .inr (.inr (.inr ⟨p3, rfl, dd2.ne n3, .inr (.inr ⟨_, so _ _ z3⟩)⟩))
      · exact .inr (.inl ⟨_, rfl⟩)
    have dO := dd3.keep so
    have tO := hT.ext sH
    obtain ⟨Ho, eHo⟩ : ∃ Ho, Ho = upd Hd po (.lst [.non, .int 0, .bl true, .int 1, .ref p1, .ref p2, .ref p3, (fun (i j : Int) => V.int (i ^ j.toNat)) 10 30]) := ⟨_, rfl⟩
    rw [← eHo] at z0 od0 sH dO tO ⊢
    obtain ⟨vs, evs⟩ : ∃ vs, vs = [V.non, .int 0, .bl true, .int 1, .ref p1, .ref p2, .ref p3, (fun (i j : Int) => V.int (i ^ j.toNat)) 10 30] := ⟨_, rfl⟩
    rw [← evs] at z0 od0
    have lvs : vs.length = 8 := by rw [evs]; rfl
    clear evs eHo eHd z1 z2 z3 s4
    refine ⟨_, rfl, by decide, by decide, for_range (n := 12) (fun i σ H' => ∃ y2 y3, σ = [some (.ref d), some (.ref po), y2, y3, none, none, none, none, none, none, none, none] ∧ DiceAt H' d ∧ Tabs T H' ∧ EB d Ho H') ⟨none, none, rfl, dO, tO, EB.refl⟩ ?_ ?_⟩
    · rintro i σ H' hi ⟨y2, y3, rfl, dH, tH, eH⟩
      have hu := hr.units
      -- the check of the turn's value
      have chk : ∀ (D : Ends) (y2 : Option V) (v : V) (o : Option Str) H2, Sx K H2 v o → DiceAt H2 d → Tabs T H2 → EB d Ho H2 → (∀ H3, DiceAt H3 d → Tabs T H3 → EB d Ho H3 → D.nx [some (.ref d), some (.ref po), y2, some v, none, none, none, none, none, none, none, none] H3) →
          tIfS (tTest (tOp rNe (tCB (fun xs H' Q => ∃ a d, xs = [.ref a] ∧ ReadsAs (XR P w K mg base f c A outer s H E) H' (.ref a) d ∧ d.showable = true ∧ (XR P w K mg base f c A outer s H E).A.units + (d.depth + 1) < cLine ∧ d.shown.length ≤ sizeLine ∧ Q (.str d.shown) H')
              (tCons (tLst (tCons (tCall (spO K isTerm) [] E0 (tCons (tVar 3) tNil)) (tCons (tCall (spO K isNont) [] E0 (tCons (tVar 3) tNil)) (tCons (tCall (spO K isName) [] E0 (tCons (tVar 3) tNil)) tNil)))) tNil))
            (tCB (fun xs H' Q => ∃ a d, xs = [.ref a] ∧ ReadsAs (XR P w K mg base f c A outer s H E) H' (.ref a) d ∧ d.showable = true ∧ (XR P w K mg base f c A outer s H E).A.units + (d.depth + 1) < cLine ∧ d.shown.length ≤ sizeLine ∧ Q (.str d.shown) H')
              (tCons (tCall (spTold K) [] E0 (tCons (tVar 3) tNil)) tNil)))) (tRet (tC (.bl false))) tNext D [some (.ref d), some (.ref po), y2, some v, none, none, none, none, none, none, none, none] H2 := by
        intro D y2 v o H2 sx dH2 tH2 eH2 nx
        obtain ⟨k1, k2, k3, k4⟩ := b3_ok (lO isTerm o) (lO isNont o) (lO isName o)
        have room : (XR P w K mg base f c A outer s H E).A.units + ((b3 (lO isTerm o) (lO isNont o) (lO isName o)).depth + 1) < cLine := by
          show (A.deeper _).units + _ < cLine
          omega
        have k3' := Nat.le_trans k3 (show 1000 ≤ sizeLine by decide)
        refine ⟨_, rfl, v, o, rfl, sx, fun H3 s3 => ⟨_, rfl, v, o, rfl, sx.mono s3, fun H4 s4 => ⟨_, rfl, v, o, rfl, (sx.mono s3).mono s4, fun H5 s5 => ⟨(by show 3 ≤ sizeLine; decide), fun p hp => ?_⟩⟩⟩⟩
        have s35 := ((s3.trans s4).trans s5).trans (same_upd (o := .lst [.bl (lO isTerm o), .bl (lO isNont o), .bl (lO isName o)]) hp)
        refine ⟨p, b3 (lO isTerm o) (lO isNont o) (lO isName o), rfl, reads_b3 upd_same, k1, room, k3', ?_⟩
        refine ⟨_, rfl, v, o, rfl, sx.mono s35, fun p2 H6 s6 at6 => ⟨p2, b3 (lO isTerm o) (lO isNont o) (lO isName o), rfl, reads_b3 at6, k1, room, k3', rfl, _, rfl, ?_⟩⟩
        rw [decide_eq_true rfl]
        have s36 := s35.trans s6
        exact iteF (nx H6 (dH2.keep s36) (tH2.ext s36) (eH2.trans (EB.same s36)))
      refine ⟨_, rfl, d, _, rfl, dH, (by decide), (by decide), fun r H1 _ _ d1' b1' => ⟨_, _, rfl, rfl, _, rfl, ?_⟩⟩
      have e1 := eH.trans (EB.sb (SB.but b1'))
      have t1 := tabs_sb dH tH (SB.but b1')
      refine ite2 (fun _ => ?_) (fun _ => ?_)
      · refine ⟨_, rfl, d, rfl, d1', fun z H2 hz d2' s2' => ?_⟩
        exact chk _ _ _ (some z) H2 ⟨rfl, by omega⟩ d2' (tabs_sb d1' t1 s2') (e1.trans (EB.sb s2')) fun H3 d3' t3' e3' => ⟨_, _, rfl, d3', t3', e3'⟩
      · refine ⟨_, rfl, _, rfl, .inl ⟨d, po, vs, rfl, d1', e1 _ _ npo (fun ps z => by cases z) z0, npo, (by omega), (by omega), fun v H2 hv d2' b2' => ?_⟩⟩
        have e2 := e1.trans (EB.sb (SB.but b2'))
        exact chk _ _ _ none H2 (Od.sx ((od0 v hv).eb e2)) d2' (tabs_sb d1' t1 (SB.but b2')) e2 fun H3 d3' t3' e3' => ⟨_, _, rfl, d3', t3', e3'⟩
    · rintro σ H' ⟨y2, y3, rfl, dH, tH, eH⟩
      exact qB _ d _ _ _ _ _ _ _ _ _ _ _ H' dH tH fun H2 t2 e2 => q H2 t2 (((EB.same sH).trans eH).trans e2)
end
end LQ
set_option Elab.async false
set_option linter.all false
set_option maxRecDepth 100000
set_option maxHeartbeats 4000000
namespace LQ
open PySem PySem.Spec PyProof.Rows L2 CG CGX LamX
open PySem.W (kitOne Frag exmOne findIn keepIn codeIn Datum)
def spLaw (K : Frag) (T : List (Addr × Str)) : Sp := fun vs H Q _ => ∃ (a : Addr) (ns : List Int), vs = [.ref a] ∧ SqL K H a (ns.map V.int) ∧ ns.length ≤ 63 ∧ Tabs T H ∧ ∀ H', Q (.bl true) H'
abbrev NLw : List Str := ["_law_script", "_law_spot", "_law_told_here"]
theorem scLw : FnScope NLw ["_law_script"] (defScope sLaw) := ⟨rfl, rfl, rfl, by decide +kernel, rfl, by decide +kernel, by decide +kernel⟩
theorem sqL_eb {K : Frag} {d : Addr} {H H' : Hp} {a : Addr} {xs : List V} (n : a ≠ d) (s : EB d H H') (h : SqL K H a xs) : SqL K H' a xs := by
  rcases h with (h | ⟨o, h⟩) | h
  · exact .inl (.inl (s _ _ n (fun ps q => by cases q) h))
  · exact .inl (.inr ⟨o, s _ _ n (fun ps q => by cases q) h⟩)
  · exact .inr h
structure Cn (mg : Str → Option Value) : Prop where
  en : ∃ t, mg "END" = some (.str "$" t)
  min : mg "min" = none
section
variable {P : Program} {w : World} {K : Frag} {mg : Str → Option Value} {base : Heap} {cX cP : Addr} {T : List (Addr × Str)} {fD fR : Addr} {dD dR : FuncData}
theorem lw_told (L : Lib P w K mg base cX cP) (sy : Sy mg) (cn : Cn mg) {f : Addr} {cdv : Value} {A : Around} {outer : List Env} {s : Shared} {H0 : Hp} {E : XK} (hr : Room 9 (A.deeper (envOfC "law" (defScope sLaw) s.heap.objs.size f cdv))) :
    ∃ t, PSs (cxOf CX0 P w K mg base NLw "law" (defScope sLaw) f cdv A outer s H0 E).nox ((defBody sLaw).drop 1) t ∧
      ∀ (D : Ends) (x0 x1 x2 : Option V) (H : Hp), (∀ H', D.rt (.bl true) H') → t D [x0, x1, x2] H := by
  obtain ⟨fRd, dRd, GRd, gRd, kRd, bRd⟩ := L.read
  obtain ⟨fW, dW, GW, gW, kW, bW⟩ := L.write
  obtain ⟨fB, dB, GB, gB, kB, bB⟩ := L.before
  obtain ⟨fN, dN, GN, gN, kN, bN⟩ := L.nont
  obtain ⟨te, hte⟩ := cn.en
  obtain ⟨tl, htl⟩ := sy.mxl
  obtain ⟨tt, htt⟩ := sy.mxt
  obtain ⟨tg, htg⟩ := sy.sgn
  have hr5 : Room 5 _ := hr.mono (by decide)
  have hr2 : Room 2 _ := hr.mono (by decide)
  refine ⟨_, pss_cons (ps_set (i := 2) scLw.nd rfl (Or.inl rfl) (pe_lst (pa_cons (pe_glob (v := .str "$") rfl hte ⟨te, rfl⟩) (pa_cons (pe_glob (v := .int 8) rfl htl ⟨tl, rfl⟩) (pa_cons (pe_glob (v := .int 60) rfl htt ⟨tt, rfl⟩)
        (pa_cons (pe_glob (v := .str "!&()*+,-./:;<=>?[]^|") rfl htg ⟨tg, rfl⟩) (pa_cons (pe_call GRd hr5 rfl gRd kRd bRd .nil passF (pa_cons pe_str pa_nil)) (pa_cons (pe_call GW hr5 rfl gW kW bW .nil passF (pa_cons (pe_tup pa_nil) pa_nil)) pa_nil))))))))
    (pss_cons (ps_if (pt_cmpR (op_neD hr.units) (pv 2) (pe_lst (pa_cons pe_str (pa_cons pe_int (pa_cons pe_int (pa_cons pe_str (pa_cons (pe_tup pa_nil) (pa_cons pe_str pa_nil))))))) (nomark _)) (pss_one (ps_ret pe_bl)) pss_nil)
    (pss_cons (ps_set (i := 2) scLw.nd rfl (Or.inl rfl) (pe_lst (pa_cons (pe_call GB hr5 rfl gB kB bB .nil passF (pa_cons (pe_tup pa_nil) (pa_cons (pe_tup (pa_cons pe_str pa_nil)) pa_nil)))
        (pa_cons (pe_call GB hr5 rfl gB kB bB .nil passF (pa_cons (pe_tup (pa_cons pe_str pa_nil)) (pa_cons (pe_tup (pa_cons pe_str (pa_cons pe_str pa_nil))) pa_nil)))
        (pa_cons (pe_call GB hr5 rfl gB kB bB .nil passF (pa_cons (pe_tup (pa_cons pe_str pa_nil)) (pa_cons (pe_tup (pa_cons pe_str pa_nil)) pa_nil)))
        (pa_cons (pe_call GB hr5 rfl gB kB bB .nil passF (pa_cons (pe_tup (pa_cons pe_str pa_nil)) (pa_cons (pe_tup (pa_cons pe_str pa_nil)) pa_nil))) pa_nil))))))
    (pss_one (ps_ret (pe_and (pe_cmpR (op_eqD hr.units) (pv 2) (pe_lst (pa_cons pe_bl (pa_cons pe_bl (pa_cons pe_bl (pa_cons pe_bl pa_nil))))) (nomark _))
      (pe_and (pe_call GN hr2 rfl gN kN bN .nil pass0 (pa_cons pe_str pa_nil)) (pe_one (pe_not (pe_call GN hr2 rfl gN kN bN .nil pass0 (pa_cons pe_str pa_nil)))))))))), ?_⟩
  intro D x0 x1 x2 H q
  have row : ∀ {H : Hp} {p : Addr} (zs : List Str), H p = some (.tup (zs.map V.str)) → (∀ z ∈ zs, isTerm z.cps.toList = true) → zs.length ≤ 20000 → Tx K H (.ref p) (some (zs.map some)) := fun zs h t l => tx_row (SqT.of h) t l
  refine ⟨.str "", some (Str.ofString ""), rfl, ⟨rfl, by decide +kernel⟩, fun ws e H1 p1 s1 at1 => ?_, fun e => absurd e (by decide +kernel)⟩
  obtain rfl : ws = [] := Option.some.inj (e.symm.trans (by decide +kernel))
  refine ⟨Nat.zero_le _, fun p2 n2 => ?_⟩
  refine ⟨.ref p2, some ([].map some), rfl, row [] upd_same (fun _ h => nomatch h) (Nat.zero_le _), fun zs e2 _ H2 s2 => ?_, fun e => absurd e (by decide)⟩
  obtain rfl := some_inj e2
  refine ⟨(by show 6 ≤ sizeLine; decide), fun p3 n3 => ?_⟩
  refine ⟨_, rfl, Nat.zero_le _, fun p4 n4 => ⟨(by show 6 ≤ sizeLine; decide), fun p5 n5 => ?_⟩⟩
  have u3 := same_upd (o := .lst [.str "$", .int 8, .int 60, .str "!&()*+,-./:;<=>?[]^|", .ref p1, .str (Txt.join " " [])]) n3
  have u4 := same_upd (o := .tup []) n4
  have u5 := same_upd (o := .lst [.str "$", .int 8, .int 60, .str "!&()*+,-./:;<=>?[]^|", .ref p4, .str ""]) n5
  have a1 := ((((same_upd (o := .tup []) n2).trans s2).trans u3).trans (u4.trans u5)) _ _ at1
  refine ⟨.list [.str "$", .int 8, .int 60, .str "!&()*+,-./:;<=>?[]^|", .tuple [], .str (Txt.join " " [])], .list [.str "$", .int 8, .int 60, .str "!&()*+,-./:;<=>?[]^|", .tuple [], .str ""],
    .lst (SqL.of ((u4.trans u5) _ _ upd_same)) (.cons (.str _) (.cons (.int _) (.cons (.int _) (.cons (.str _) (.cons (.tup (SqT.of a1) .nil) (.cons (.str _) .nil)))))),
    .lst (SqL.of upd_same) (.cons (.str _) (.cons (.int _) (.cons (.int _) (.cons (.str _) (.cons (.tup (SqT.of (u5 _ _ upd_same)) .nil) (.cons (.str _) .nil)))))), by decide +kernel, by decide +kernel, _, rfl, ?_⟩
  rw [show PyData.eqv (.list [.str "$", .int 8, .int 60, .str "!&()*+,-./:;<=>?[]^|", .tuple [], .str (Txt.join " " [])]) (.list [.str "$", .int 8, .int 60, .str "!&()*+,-./:;<=>?[]^|", .tuple [], .str ""]) = true by decide +kernel]
  refine iteF ?_
  have al : ∀ zs : List Str, (zs.all fun z => isTerm z.cps.toList) = true → ∀ z ∈ zs, isTerm z.cps.toList = true := fun zs h => List.all_eq_true.mp h
  refine ⟨Nat.zero_le _, fun r1 m1 => ⟨(by show 1 ≤ sizeLine; decide), fun r2 m2 => ?_⟩⟩
  refine ⟨_, _, _, _, rfl, tx_row (zs := []) (SqT.of ((same_upd m2) _ _ upd_same)) (al _ (by decide +kernel)) (by decide), tx_row (zs := ["a"]) (SqT.of upd_same) (al _ (by decide +kernel)) (by decide), fun zs' ws' e1 e2 _ H3 _ => ?_, fun e => absurd e (by decide +kernel)⟩
  obtain rfl := some_inj e1
  obtain rfl := some_inj e2
  refine ⟨(by show 1 ≤ sizeLine; decide), fun r3 m3 => ⟨(by show 2 ≤ sizeLine; decide), fun r4 m4 => ?_⟩⟩
  refine ⟨_, _, _, _, rfl, tx_row (zs := ["b"]) (SqT.of ((same_upd m4) _ _ upd_same)) (al _ (by decide +kernel)) (by decide), tx_row (zs := ["a", "a"]) (SqT.of upd_same) (al _ (by decide +kernel)) (by decide), fun zs' ws' e1 e2 _ H4 _ => ?_, fun e => absurd e (by decide +kernel)⟩
  obtain rfl := some_inj e1
  obtain rfl := some_inj e2
  refine ⟨(by show 1 ≤ sizeLine; decide), fun r5 m5 => ⟨(by show 1 ≤ sizeLine; decide), fun r6 m6 => ?_⟩⟩
  refine ⟨_, _, _, _, rfl, tx_row (zs := ["b"]) (SqT.of ((same_upd m6) _ _ upd_same)) (al _ (by decide +kernel)) (by decide), tx_row (zs := ["a"]) (SqT.of upd_same) (al _ (by decide +kernel)) (by decide), fun zs' ws' e1 e2 _ H5 _ => ?_, fun e => absurd e (by decide +kernel)⟩
  obtain rfl := some_inj e1
  obtain rfl := some_inj e2
  refine ⟨(by show 1 ≤ sizeLine; decide), fun r7 m7 => ⟨(by show 1 ≤ sizeLine; decide), fun r8 m8 => ?_⟩⟩
  refine ⟨_, _, _, _, rfl, tx_row (zs := ["("]) (SqT.of ((same_upd m8) _ _ upd_same)) (al _ (by decide +kernel)) (by decide), tx_row (zs := ["a"]) (SqT.of upd_same) (al _ (by decide +kernel)) (by decide), fun zs' ws' e1 e2 _ H6 _ => ?_, fun e => absurd e (by decide +kernel)⟩
  obtain rfl := some_inj e1
  obtain rfl := some_inj e2
  refine ⟨(by show 4 ≤ sizeLine; decide), fun pl nl => ⟨_, rfl, (by show 4 ≤ sizeLine; decide), fun pl2 nl2 => ?_⟩⟩
  refine ⟨.list [.bool (befL [] ["a"]), .bool (befL ["b"] ["a", "a"]), .bool (befL ["b"] ["a"]), .bool (befL ["("] ["a"])], .list [.bool true, .bool true, .bool false, .bool true],
    .lst (SqL.of ((same_upd nl2) _ _ upd_same)) (.cons (.bl _) (.cons (.bl _) (.cons (.bl _) (.cons (.bl _) .nil)))), .lst (SqL.of upd_same) (.cons (.bl _) (.cons (.bl _) (.cons (.bl _) (.cons (.bl _) .nil)))), by decide +kernel, by decide +kernel, _, rfl, ?_⟩
  rw [show PyData.eqv (.list [.bool (befL [] ["a"]), .bool (befL ["b"] ["a", "a"]), .bool (befL ["b"] ["a"]), .bool (befL ["("] ["a"])]) (.list [.bool true, .bool true, .bool false, .bool true]) = true by decide +kernel]
  refine iteT ?_
  refine ⟨.str "Abcdef", some (Str.ofString "Abcdef"), rfl, ⟨rfl, by decide +kernel⟩, fun H7 _ => ⟨_, rfl, ?_⟩⟩
  rw [show lO isNont (some (Str.ofString "Abcdef")) = true by decide +kernel]
  refine iteT ?_
  refine ⟨.str "Abcdefg", some (Str.ofString "Abcdefg"), rfl, ⟨rfl, by decide +kernel⟩, fun H8 _ => ⟨_, rfl, ?_⟩⟩
  rw [show lO isNont (some (Str.ofString "Abcdefg")) = false by decide +kernel]
  exact q H8
theorem ok_law {f : Addr} {fd : FuncData} (F : Fun K "law" "law" sLaw f fd) (L : Lib P w K mg base cX cP) (sy : Sy mg) (cn : Cn mg)
    (GD : FnOk P w K mg base CX0 1 fD dD ["_law_script", "_law_spot"] (spDice K)) (gD : mg "_law_dice" = some (.ref fD)) (kD : keepIn K (.ref fD) = true) (bD : L2.Binds K dD ["_law_script", "_law_spot"] [])
    (GR : FnG P w K mg base CX0 9 fR dR ["_law_dice_here"] (spRight K T)) (gR : mg "_law_right" = some (.ref fR)) (kR : keepIn K (.ref fR) = true) (bR : L2.Binds K dR ["_law_dice_here"] []) :
    FnG P w K mg base CX0 10 f fd ["_law_script"] (spLaw K T) := by
  refine fnG_of (N := NLw) F scLw (fun vs H Q E h => ?_) (fun cdv A outer s H vs Q E hr hg h => ?_)
  · obtain ⟨a, ns, rfl, _⟩ := h
    rfl
  · obtain ⟨a, ns, rfl, hS, len, hT, fin⟩ := h
    obtain ⟨tB', hB, qB⟩ := lw_told L sy cn hr (P := P) (w := w) (f := f) (s := s) (outer := outer) (H0 := H) (E := E)
    have hr1 : Room 1 _ := hr.mono (by decide)
    refine ⟨_, PSs.nox (pss_cons (ps_for PassesOwn.never rfl (pi_range1 rfl L.lr.range (pa_cons (pe_callB (call_max2 rfl) (by rfl) L.bl.max PyProof.Rows.boot_max (pa_cons pe_int (pa_cons
            (pe_callB (call_min2 rfl) (by rfl) cn.min PyProof.Rows.boot_min (pa_cons pe_int (pa_cons (pe_callB call_len (by rfl) L.bl.len PySem.boot_len (pa_cons (pv 0) pa_nil)) pa_nil))) pa_nil))) pa_nil))
          (pg_name (i := 1) scLw.nd rfl (Or.inl rfl))
          (pss_one (ps_if (pt_not (pt_val (pe_callG GR hr hg rfl gR kR bR pass0 (pa_cons (pe_call GD hr1 rfl gD kD bD .nil pass0 (pa_cons (pv 0) (pa_cons (pv 1) pa_nil))) pa_nil)))) (pss_one (ps_ret pe_bl)) pss_nil)))
      hB), ?_⟩
    refine ⟨_, rfl, .ref a, _, rfl, .inl ⟨_, hS, rfl⟩, _, _, rfl, _, _, rfl, _, rfl, ?b1, ?b2, for_range (lo := 0) (fun i σ H' => ∃ v, σ = [some (.ref a), v, none] ∧ Tabs T H' ∧ SqL K H' a (ns.map V.int)) ⟨none, rfl, hT, hS⟩ ?turn ?after⟩
    case b1 =>
      rw [List.length_map]
      split <;> split <;> omega
    case b2 =>
      rw [List.length_map]
      split <;> split <;> omega
    case turn =>
      rintro i σ H' hi ⟨v, rfl, hT', hS'⟩
      refine ⟨_, rfl, _, rfl, a, ns, i, (by rw [Int.zero_add]; rfl), hS', fun p x y np => ?_⟩
      have sp := same_upd (o := .lst [.int x, .int y, .int 0]) np
      refine ⟨p, rfl, ⟨_, _, _, upd_same⟩, hT'.ext sp, fun H2 t2 e2 => ⟨true, rfl, ?_⟩⟩
      refine ⟨_, rfl, t2, ?_⟩
      rcases hS' with (h | ⟨o, h⟩) | h
      · exact sqL_eb (ne_of_none h np) e2 (sp.seq (.inl (.inl h)))
      · exact sqL_eb (ne_of_none h np) e2 (sp.seq (.inl (.inr ⟨o, h⟩)))
      · exact .inr h
    case after =>
      rintro σ H' ⟨v, rfl, _, _⟩
      exact qB _ _ _ _ H' fin
end
end LQ
set_option Elab.async false
set_option linter.all false
set_option maxRecDepth 100000
set_option maxHeartbeats 4000000
namespace LQ
open PySem PySem.Spec PyProof.Rows L2 CG CGX LamX
/-! ### the law's call from the head: a promise of the G kind, tables of code objects -/
def startHp (K : PySem.W.Frag) (a : Addr) (vs : List Value) (ns : List Int) (tb : List Addr) : Hp := fun b =>
  if b ∈ tb then some (.tbl #[]) else scriptHp K a vs ns b
theorem lawGT {P : Program} {w : World} {K : PySem.W.Frag} {mg mb : Str → Option Value} {k : Nat} {fa a : Addr} {cs : List (Addr × Addr)} {fd : FuncData} {x : Str} {sp : Sp}
    {s₁ : Shared} {vs : List Value} {ns : List Int} (inK : K.In s₁.heap) (g : s₁.heap.Ns mainGlobals mg) (bl : s₁.heap.Ns builtinsNs mb)
    (bt : ∀ x : Str, x ≠ "__name__" → mb x = bootBuiltins x) (nl : s₁.heap.NoLimit) (gens : s₁.gens = #[])
    (hT : ∀ p ∈ cs, s₁.heap.get? p.2 = some { cls := .none, data := .fields #[] }) (nT : ∀ p ∈ cs, K.lookup p.2 = none) (C : ∀ p ∈ cs, PySem.W.CodeHd s₁.heap p.1 p.2)
    (hbm : ∃ (bm : Addr) (ob : Obj), mg "__builtins__" = some (.ref bm) ∧ bm ≠ builtinsNs ∧ s₁.heap.get? bm = some ob ∧ ob.cls = .type "module" ∧ ob.dict = some builtinsNs ∧ ob.data = .plain)
    (obj : s₁.heap.get? a = some { cls := .type "list", data := .seq vs.toArray }) (hInts : IntsAre vs ns) (short : ns.length ≤ sizeLine) (room : Room k callerA)
    (F : ∀ base : Heap, K.In base → base.Ns mainGlobals mg → (∀ p ∈ cs, TabB base mg p.1 p.2) → FnG P w K mg base CX0 k fa fd [x] sp)
    (bnd : ∀ (s : Shared) (u : Value), BindsTo s fd ⟨[u], []⟩ [(x, u)])
    (want : ∀ H : Hp, (∀ p ∈ cs, H p.2 = some (.tbl #[])) → SqL K H a (ns.map V.int) → sp [.ref a] H (fun v _ => v = .bl true) E0) :
    codeAny (model P w) callerA (.call (.ref fa) ⟨[.ref a], []⟩)
      (fun r s' => r = .ok (.ret (.bool true)) ∧ OldK s₁.heap s'.heap ∧ s'.os = s₁.os ∧ AllBare s'.gens) s₁ := by
  have many := hInts.length
  obtain ⟨tb, etb⟩ : ∃ tb, tb = cs.map (·.2) := ⟨_, rfl⟩
  have inTb : ∀ p ∈ cs, p.2 ∈ tb := fun p hp => by rw [etb]; exact List.mem_map.mpr ⟨p, hp, rfl⟩
  have isT : ∀ b ∈ tb, s₁.heap.get? b = some { cls := .none, data := .fields #[] } := fun b hb => by
    rw [etb] at hb
    obtain ⟨p, hp, rfl⟩ := List.mem_map.mp hb
    exact hT p hp
  have noT : ∀ b ∈ tb, K.lookup b = none := fun b hb => by
    rw [etb] at hb
    obtain ⟨p, hp, rfl⟩ := List.mem_map.mp hb
    exact nT p hp
  have aT : a ∉ tb := fun z => by
    have q := isT a z
    rw [obj] at q
    cases q
  generalize hH : startHp K a vs ns tb = H
  have cases_ : ∀ {b : Addr} {u : HO}, H b = some u → (b ∈ tb ∧ u = .tbl #[]) ∨ (b ∉ tb ∧ b = a ∧ K.lookup a = none ∧ u = .frz { cls := .type "list", data := .seq vs.toArray } (.lst (ns.map V.int))) := fun {b u} e => by
    rw [← hH] at e
    unfold startHp at e
    split at e
    · rename_i z
      cases e
      exact .inl ⟨z, rfl⟩
    · rename_i z
      exact .inr ⟨z, scriptHp_some e⟩
  have tbs : ∀ p ∈ cs, H p.2 = some (.tbl #[]) := fun p hp => by
    rw [← hH]
    exact if_pos (inTb p hp)
  have sees : SqL K H a (ns.map V.int) := by
    cases e : K.lookup a with
    | none => exact .inl (.inr ⟨_, by rw [← hH]; exact (if_neg aT).trans (if_pos ⟨rfl, e⟩)⟩)
    | some o =>
      have z := inK a o e
      rw [obj] at z
      cases z
      exact .inr ⟨_, vs.toArray, _, e, rfl, rfl, rfl, by rw [List.size_toArray, many]; exact short, by simpa using vals_ints hInts⟩
  have ok : HOk P w H s₁.heap := by
    intro b u e
    rcases cases_ e with ⟨hb, rfl⟩ | ⟨_, rfl, _, rfl⟩
    · exact isT b hb
    · exact ⟨obj, by rw [List.length_map]; exact short, vs, _, vals_ints hInts, obj⟩
  have hid : ∀ {b : Addr} {o : Obj}, s₁.heap.get? b = some o → (∀ u, H b = some u → False) → (hidT s₁.heap H).get? b = some o := by
    intro b o e n
    refine hidT_get e ?_
    cases q : H b with
    | none => rfl
    | some u => exact (n u q).elim
  -- what is neither a list nor an empty table is not hidden
  have free : ∀ {b : Addr} {o : Obj}, s₁.heap.get? b = some o → (∀ vs n, o.data ≠ .seq vs n) → o.data ≠ .fields #[] → (hidT s₁.heap H).get? b = some o := fun {b o} e h1 h2 => hid e fun u q => by
    rcases cases_ q with ⟨hb, _⟩ | ⟨_, rfl, _, _⟩
    · rw [isT b hb] at e
      cases e
      exact h2 rfl
    · rw [obj] at e
      cases e
      exact h1 _ _ rfl
  have hidNs : ∀ {b : Addr} {m : Str → Option Value}, s₁.heap.Ns b m → (hidT s₁.heap H).Ns b m := by
    rintro b m ⟨o, es, ep, e, d, r⟩
    exact ⟨o, es, ep, free e (fun vs n z => by rw [d] at z; cases z) (fun z => by rw [d] at z; cases z), d, r⟩
  have hidK : K.In (hidT s₁.heap H) := by
    intro b o e
    refine hid (inK b o e) fun u q => ?_
    rcases cases_ q with ⟨hb, _⟩ | ⟨_, rfl, z, _⟩
    · rw [noT b hb] at e
      cases e
    · rw [z] at e
      cases e
  have TB : ∀ p ∈ cs, TabB (hidT s₁.heap H) mg p.1 p.2 := fun p hp => by
    have hTp := hT p hp
    refine ⟨?_, ?_, fun z => ?_⟩
    · obtain ⟨o, us, file, tf, flags, tg, inF, text, tt, e1, r1, r2, r3, rest⟩ := C p hp
      refine ⟨o, us, file, tf, flags, tg, inF, text, tt, free e1 (fun vs n z => ?_) (fun z => ?_), r1, r2, r3, rest⟩
      · rw [r2] at z
        cases z
      · rw [r2] at z
        cases z
        simp at r3
    · obtain ⟨bm, ob, b1, b2, b3, b4, b5, b6⟩ := hbm
      refine ⟨bm, ob, b1, b2, fun q => ?_, fun q => ?_, free b3 (fun vs n z => ?_) (fun z => ?_), b4, b5, b6⟩
      · obtain ⟨o, es, ep, e, hd, _⟩ := g
        rw [q, e] at b3
        cases b3
        rw [hd] at b6
        cases b6
      · rw [q, hTp] at b3
        cases b3
        cases b6
      · rw [b6] at z
        cases z
      · rw [b6] at z
        cases z
    · obtain ⟨o, es, ep, e, hd, _⟩ := g
      rw [z, hTp] at e
      cases e
      cases hd
  have env : Env0 P w K mg (hidT s₁.heap H) callerA [] s₁ H := {
    frames := rfl
    mod := ⟨hidK, hidNs g, ⟨mb, hidNs bl, bt⟩, by obtain ⟨mc, h1, h2⟩ := nl; exact ⟨mc, hidNs h1, h2⟩⟩
    bs := fun b o e => of_hidT e
    bsz := Nat.le_of_eq (hidT_size _ _)
    funs := trivial
    frf := fun b z => by cases z
    hok := ok
    bare := .of_eq gens }
  refine codeAny_mono ((F _ hidK (hidNs g) TB).run callerA [] s₁ H _ [.ref a] [.ref a] _ _ room rfl env (bnd s₁ (.ref a)) (.cons rfl .nil) (want H tbs sees)) ?_
  intro r s' h
  match r, h with
  | .ok (.ret u), ⟨v, H', os, bare, un, ok', rel, q⟩ =>
    have q' : v = .bl true := q
    subst q'
    have rel' : u = Value.bool true := rel
    subst rel'
    have key : ∀ b o, b ∉ tb → s₁.heap.get? b = some o → s'.heap.get? b = some o := fun b o nb e => by
      cases q : H b with
      | none => exact un.keep b o e q (by intro z; cases z) (by intro z; cases z)
      | some u =>
        have q0 := q
        rcases cases_ q with ⟨z, _⟩ | ⟨_, rfl, _, rfl⟩
        · exact absurd z nb
        · obtain ⟨e2, _⟩ := ok' b _ (un.frzs b _ _ q0)
          rw [obj] at e
          cases e
          exact e2
    have grown : ∀ p ∈ cs, ∃ more : Array Value, s'.heap.get? p.2 = some { cls := .none, data := .fields more } := fun p hp => by
      obtain ⟨more, z⟩ := un.tbls p.2 #[] (tbs p hp)
      exact ⟨_, ok' p.2 _ z⟩
    refine ⟨rfl, ⟨fun b o e => ?_, fun b o e => ?_⟩, os, bare⟩
    · by_cases hb : b ∈ tb
      · rw [etb] at hb
        obtain ⟨p, hp, rfl⟩ := List.mem_map.mp hb
        obtain ⟨more, hm⟩ := grown p hp
        rw [hT p hp] at e
        cases e
        exact .inr (.inl ⟨((C p hp).tab (hT p hp)).isCodeTable, rfl, #[], more, rfl, by rw [Array.empty_append]; exact hm⟩)
      · exact .inl (key b o hb e)
    · by_cases hb : b ∈ tb
      · rw [etb] at hb
        obtain ⟨p, hp, rfl⟩ := List.mem_map.mp hb
        obtain ⟨more, hm⟩ := grown p hp
        exact ⟨_, hm⟩
      · exact ⟨o, key b o hb e⟩
theorem walkGT {l : PySem.W.OpenLaw} {n k : Nat} {q : Program} {loose : List Str} {XP : (Str → Option Value) → Heap → Prop} {YP : World → Heap → Prop} {d : DefRec} {K : Params → PySem.W.Frag} {x : Str}
    (hn : l.most = some n) (hn2 : n ≤ sizeLine) (hdf : d.params.defaults = []) (room : Room k callerA) {ts : List Addr} (hY : ∀ (w : World) (h : Heap), YP w h → (K w.params).In h ∧ ∀ p ∈ ts, h.get? p = some (PySem.W.tabObj #[]))
    (F : ∀ (w : World) (mg : Str → Option Value) (fa : Addr) (h : Heap), (K w.params).In h → (∀ p ∈ ts, h.get? p = some (PySem.W.tabObj #[])) → h.Ns mainGlobals mg → mg d.name = some (.ref fa) →
      ∃ (K' : PySem.W.Frag) (fd : FuncData) (cs : List (Addr × Addr)) (sp : Sp), K'.In h ∧ (∀ p ∈ cs, h.get? p.2 = some { cls := .none, data := .fields #[] }) ∧ (∀ p ∈ cs, K'.lookup p.2 = none) ∧ (∀ p ∈ cs, PySem.W.CodeHd h p.1 p.2) ∧
        (∀ (s : Shared) (u : Value), BindsTo s fd ⟨[u], []⟩ [(x, u)]) ∧
        (∀ (H : Hp) (a : Addr) (ns : List Int), ns.length ≤ n → (∀ p ∈ cs, H p.2 = some (.tbl #[])) → SqL K' H a (ns.map V.int) → sp [.ref a] H (fun v _ => v = .bl true) E0) ∧
        ∀ base : Heap, K'.In base → base.Ns mainGlobals mg → (∀ p ∈ cs, TabB base mg p.1 p.2) → FnG l.prog w K' mg base CX0 k fa fd [x] sp) :
    PySem.W.WalkO q loose XP YP l.row.toRowW d [] (fun f vs => PySem.call f vs) := by
  refine Att.attach_call hn hdf ?_
  intro w s₀ s₁ mg mb fa o pm cd doc a vs ns G Y ho hd hcd hmg hobj hints hlen hg
  obtain ⟨K', fd, cs, sp, KX, hT, nT, C, hb, hsp, hF⟩ := F w mg fa _ (hY w _ Y).1 (hY w _ Y).2 G.T.g hmg
  exact lawGT KX G.T.g G.T.b G.T.builtins G.T.nolimit hg hT nT C G.T.bmain hobj hints (Nat.le_trans hlen hn2) room hF hb fun H z1 z2 => hsp H a ns hlen z1 z2
end LQ
set_option Elab.async false
set_option linter.all false
set_option maxRecDepth 100000
set_option maxHeartbeats 4000000
namespace LQ
open PySem PySem.Spec PyProof.Rows L2 CG CGX LamX
open PySem.W (kitOne Frag exmOne findIn keepIn codeIn excIn subIn typeIn nsIn)
/-! ### the written part without the two tables -/
def cutK (K : Frag) (p q : Addr) : Frag := K.filter fun z => !(z.1 == p) && !(z.1 == q)
theorem cut_look {p q b : Addr} : ∀ {K : Frag}, (cutK K p q).lookup b = if b = p ∨ b = q then none else K.lookup b
  | [] => by unfold cutK; simp
  | (a, o) :: K => by
    have ih := cut_look (p := p) (q := q) (b := b) (K := K)
    unfold cutK at ih ⊢
    by_cases ha : a = p ∨ a = q
    · have e : (!(a == p) && !(a == q)) = false := by
        rcases ha with h | h <;> simp [h]
      rw [List.filter_cons, e, if_neg Bool.false_ne_true, ih]
      by_cases hb : b = p ∨ b = q
      · rw [if_pos hb, if_pos hb]
      · rw [if_neg hb, if_neg hb]
        have : b ≠ a := fun h => hb (h ▸ ha)
        rw [List.lookup_cons, show (b == a) = false from beq_false_of_ne this]
    · have e : (!(a == p) && !(a == q)) = true := by
        rw [not_or] at ha
        simp [ha.1, ha.2]
      rw [List.filter_cons, e, if_pos rfl, List.lookup_cons, List.lookup_cons, ih]
      by_cases hba : b = a
      · subst hba
        simp [ha]
      · rw [show (b == a) = false from beq_false_of_ne hba]
theorem cut_up {K : Frag} {p q b : Addr} {o : Obj} (n1 : b ≠ p) (n2 : b ≠ q) (e : K.lookup b = some o) : (cutK K p q).lookup b = some o := by
  rw [cut_look, if_neg (fun z => z.elim n1 n2)]
  exact e
theorem cut_in {K : Frag} {p q : Addr} {h : Heap} (X : K.In h) : (cutK K p q).In h := fun b o e => by
  rw [cut_look] at e
  split at e
  · cases e
  · exact X b o e
theorem cut_l {K : Frag} {p q : Addr} : (cutK K p q).lookup p = none := by rw [cut_look, if_pos (.inl rfl)]
theorem cut_r {K : Frag} {p q : Addr} : (cutK K p q).lookup q = none := by rw [cut_look, if_pos (.inr rfl)]
/-- the table of the code object at c -/
def refOf : Option Value → Option Addr
  | some (Value.ref p) => some p
  | _ => none
def tabAt (K : Frag) (c : Addr) : Option Addr := match K.lookup c with
  | some o => (match o.data with
    | Data.fields vs => refOf (vs[11]?)
    | _ => none)
  | none => none
def defB (K : Frag) (p q : Addr) (x : Addr × Value × Str) : Bool := !(x.1 == p) && !(x.1 == q) && codeIn K x.2.1 x.2.2 && keepIn K (.ref x.1)
def defsB (K : Frag) (p q : Addr) (l : List (Addr × Value × Str)) : Bool := l.all (defB K p q)
theorem defB_of {K : Frag} {p q f : Addr} {cd : Value} {n : Str} (h : defB K p q (f, cd, n) = true) : f ≠ p ∧ f ≠ q ∧ codeIn K cd n = true ∧ keepIn K (.ref f) = true := by
  unfold defB at h
  simp only [Bool.and_eq_true, Bool.not_eq_true', beq_eq_false_iff_ne] at h
  exact ⟨h.1.1.1, h.1.1.2, h.1.2, h.2⟩
def nonesB (K : Frag) : Bool := ["isinstance", "str", "tuple", "len", "list", "range", "repr", "int", "abs", "max", "min", "all"].all fun n => nsIn K mainGlobals (Str.ofString n) == some none
theorem nones_of {K : Frag} (h : nonesB K = true) : nsIn K mainGlobals "isinstance" = some none ∧ nsIn K mainGlobals "str" = some none ∧ nsIn K mainGlobals "tuple" = some none ∧ nsIn K mainGlobals "len" = some none ∧ nsIn K mainGlobals "list" = some none ∧
    nsIn K mainGlobals "range" = some none ∧ nsIn K mainGlobals "repr" = some none ∧ nsIn K mainGlobals "int" = some none ∧ nsIn K mainGlobals "abs" = some none ∧ nsIn K mainGlobals "max" = some none ∧ nsIn K mainGlobals "min" = some none ∧ nsIn K mainGlobals "all" = some none := by
  unfold nonesB at h
  simp only [List.all_cons, List.all_nil, Bool.and_true, Bool.and_eq_true, beq_iff_eq] at h
  exact h
def allB (K K0 : Frag) (cX cP fI : Addr) (bm : List Value) (cL cR p q oA : Addr) : Bool := nonesB K0 && PySem.HandSPX.refsVE bm && (findIn K (.ref cP) "__setattr__" == some (some (.builtin "object.__setattr__"))) && (subIn K (.ref cP) (.type "BaseException") == some true) &&
  (typeIn K (.ref cP) == some (.type "type")) && keepIn K (.ref cP) && excIn K cX [.type "ValueError", .type "Exception", .type "BaseException", .type "object"] "ValueError.__new__" && keepIn K (.ref cX) && (subIn K (.ref cX) (.type "BaseException") == some true) &&
  (typeIn K (.ref cX) == some (.type "type")) && (findIn K (.ref cP) "__init__" == some (some (.ref fI))) && (typeIn K (.ref fI) == some (.type "function")) && (findIn K (.ref cP) "line" == some none) &&
  (exmOne K (.ref cX) (.ref cX) == some true) && (exmOne K (.ref cP) (.ref cX) == some false) && (exmOne K (.ref cP) (.ref cP) == some true) && xfB K cP && !(cP == p) && !(cP == q) && !(oA == p) && !(oA == q) &&
  PySem.W.codeHdIn K cL p && PySem.W.codeHdIn K cR q && !(p == q)
theorem allB_of {K K0 : Frag} {cX cP fI : Addr} {bm : List Value} {cL cR p q oA : Addr} (h : allB K K0 cX cP fI bm cL cR p q oA = true) : nonesB K0 = true ∧ PySem.HandSPX.refsVE bm = true ∧ findIn K (.ref cP) "__setattr__" = some (some (.builtin "object.__setattr__")) ∧ subIn K (.ref cP) (.type "BaseException") = some true ∧
    typeIn K (.ref cP) = some (.type "type") ∧ keepIn K (.ref cP) = true ∧ excIn K cX [.type "ValueError", .type "Exception", .type "BaseException", .type "object"] "ValueError.__new__" = true ∧ keepIn K (.ref cX) = true ∧ subIn K (.ref cX) (.type "BaseException") = some true ∧
    typeIn K (.ref cX) = some (.type "type") ∧ findIn K (.ref cP) "__init__" = some (some (.ref fI)) ∧ typeIn K (.ref fI) = some (.type "function") ∧ findIn K (.ref cP) "line" = some none ∧
    exmOne K (.ref cX) (.ref cX) = some true ∧ exmOne K (.ref cP) (.ref cX) = some false ∧ exmOne K (.ref cP) (.ref cP) = some true ∧ xfB K cP = true ∧ cP ≠ p ∧ cP ≠ q ∧ oA ≠ p ∧ oA ≠ q ∧
    (PySem.W.codeHdIn K cL p = true ∧ PySem.W.codeHdIn K cR q = true ∧ p ≠ q) := by
  unfold allB at h
  simp only [Bool.and_eq_true, beq_iff_eq, Bool.not_eq_true', beq_eq_false_iff_ne] at h
  obtain ⟨⟨⟨⟨⟨⟨⟨⟨⟨⟨⟨⟨⟨⟨⟨⟨⟨⟨⟨⟨⟨⟨⟨a1, a2⟩, a3⟩, a4⟩, a5⟩, a6⟩, a7⟩, a8⟩, a9⟩, a10⟩, a11⟩, a12⟩, a13⟩, a14⟩, a15⟩, a16⟩, a17⟩, a18⟩, a19⟩, a20⟩, a21⟩, a22⟩, a23⟩, a24⟩ := h
  exact ⟨a1, a2, a3, a4, a5, a6, a7, a8, a9, a10, a11, a12, a13, a14, a15, a16, a17, a18, a19, a20, a21, a22, a23, a24⟩
theorem all_mk {P : Program} {w : World} {K : Frag} {h : Heap} {mg : Str → Option Value} {fa : Addr} (X : K.In h) (G : h.Ns mainGlobals mg) (hfa : mg "law" = some (.ref fa))
    {fSm fWo fTe fNo fNa fTs fOr fBe fWr fRe fDi fRo fPi fIs fIt fTo fWd fRw fEr fLi fOd fRi fLa fIn cX cP cLi cRi pLi pRi oA : Addr} {odSm anSm odWo anWo odTe anTe odNo anNo odNa anNa odTs anTs odOr anOr odBe anBe odWr anWr odRe anRe odDi anDi odRo anRo odPi anPi odIs anIs odIt anIt odTo anTo odWd anWd odRw anRw odEr anEr odLi anLi odOd anOd odRi anRi odLa anLa odIn anIn ddO : Option Addr} {slSm slWo slTe slNo slNa slTs slOr slBe slWr slRe slDi slRo slPi slIs slIt slTo slWd slRw slEr slLi slOd slRi slLa slIn slO : Array (Option Value)} {ocSm dcSm pmSm ctSm kVSm cdSm ocWo dcWo pmWo ctWo kVWo cdWo ocTe dcTe pmTe ctTe kVTe cdTe ocNo dcNo pmNo ctNo kVNo cdNo ocNa dcNa pmNa ctNa kVNa cdNa ocTs dcTs pmTs ctTs kVTs cdTs ocOr dcOr pmOr ctOr kVOr cdOr ocBe dcBe pmBe ctBe kVBe cdBe ocWr dcWr pmWr ctWr kVWr cdWr ocRe dcRe pmRe ctRe kVRe cdRe ocDi dcDi pmDi ctDi kVDi cdDi ocRo dcRo pmRo ctRo kVRo cdRo ocPi dcPi pmPi ctPi kVPi cdPi ocIs dcIs pmIs ctIs kVIs cdIs ocIt dcIt pmIt ctIt kVIt cdIt ocTo dcTo pmTo ctTo kVTo cdTo ocWd dcWd pmWd ctWd kVWd cdWd ocRw dcRw pmRw ctRw kVRw cdRw ocEr dcEr pmEr ctEr kVEr cdEr ocLi dcLi pmLi ctLi kVLi ocOd dcOd pmOd ctOd kVOd cdOd ocRi dcRi pmRi ctRi kVRi ocLa dcLa pmLa ctLa kVLa cdLa ocIn dcIn pmIn ctIn kVIn cdIn : Value} {tSm tLg tSg tMl tMt tMs tEn t1 t2 : Tok} {nO : Nat} {xnm xq : Str} {xN : Addr} {xbs xbm : List Value} {xsn : List Str} {xsub : List Value} {xab : Bool} {xcol : Option Bool} {xdd : Option Addr} {x0 x1 x2 x3 x5 : Option Value}
    (aSm : nsIn K mainGlobals "has_small_letters" = some (some (.ref fSm)))
    (lSm : K.lookup fSm = some ⟨ocSm, odSm, .func (PySem.W.fnOf "has_small_letters" "has_small_letters" (defArgs sSmall) (defBody sSmall) (defScope sSmall) .none kVSm dcSm pmSm anSm cdSm ctSm), slSm⟩)
    (aWo : nsIn K mainGlobals "is_word" = some (some (.ref fWo)))
    (lWo : K.lookup fWo = some ⟨ocWo, odWo, .func (PySem.W.fnOf "is_word" "is_word" (defArgs sWord) (defBody sWord) (defScope sWord) .none kVWo dcWo pmWo anWo cdWo ctWo), slWo⟩)
    (aTe : nsIn K mainGlobals "is_terminal" = some (some (.ref fTe)))
    (lTe : K.lookup fTe = some ⟨ocTe, odTe, .func (PySem.W.fnOf "is_terminal" "is_terminal" (defArgs sTerm) (defBody sTerm) (defScope sTerm) .none kVTe dcTe pmTe anTe cdTe ctTe), slTe⟩)
    (aNo : nsIn K mainGlobals "is_nonterminal" = some (some (.ref fNo)))
    (lNo : K.lookup fNo = some ⟨ocNo, odNo, .func (PySem.W.fnOf "is_nonterminal" "is_nonterminal" (defArgs sNont) (defBody sNont) (defScope sNont) .none kVNo dcNo pmNo anNo cdNo ctNo), slNo⟩)
    (aNa : nsIn K mainGlobals "is_name" = some (some (.ref fNa)))
    (lNa : K.lookup fNa = some ⟨ocNa, odNa, .func (PySem.W.fnOf "is_name" "is_name" (defArgs sName) (defBody sName) (defScope sName) .none kVNa dcNa pmNa anNa cdNa ctNa), slNa⟩)
    (aTs : nsIn K mainGlobals "is_terminals" = some (some (.ref fTs)))
    (lTs : K.lookup fTs = some ⟨ocTs, odTs, .func (PySem.W.fnOf "is_terminals" "is_terminals" (defArgs sTerms) (defBody sTerms) (defScope sTerms) .none kVTs dcTs pmTs anTs cdTs ctTs), slTs⟩)
    (aOr : nsIn K mainGlobals "text_order" = some (some (.ref fOr)))
    (lOr : K.lookup fOr = some ⟨ocOr, odOr, .func (PySem.W.fnOf "text_order" "text_order" (defArgs sOrder) (defBody sOrder) (defScope sOrder) .none kVOr dcOr pmOr anOr cdOr ctOr), slOr⟩)
    (aBe : nsIn K mainGlobals "is_before" = some (some (.ref fBe)))
    (lBe : K.lookup fBe = some ⟨ocBe, odBe, .func (PySem.W.fnOf "is_before" "is_before" (defArgs sBefore) (defBody sBefore) (defScope sBefore) .none kVBe dcBe pmBe anBe cdBe ctBe), slBe⟩)
    (aWr : nsIn K mainGlobals "write_terminals" = some (some (.ref fWr)))
    (lWr : K.lookup fWr = some ⟨ocWr, odWr, .func (PySem.W.fnOf "write_terminals" "write_terminals" (defArgs sWrite) (defBody sWrite) (defScope sWrite) .none kVWr dcWr pmWr anWr cdWr ctWr), slWr⟩)
    (aRe : nsIn K mainGlobals "read_terminals" = some (some (.ref fRe)))
    (lRe : K.lookup fRe = some ⟨ocRe, odRe, .func (PySem.W.fnOf "read_terminals" "read_terminals" (defArgs sRead) (defBody sRead) (defScope sRead) .none kVRe dcRe pmRe anRe cdRe ctRe), slRe⟩)
    (aDi : nsIn K mainGlobals "_law_dice" = some (some (.ref fDi)))
    (lDi : K.lookup fDi = some ⟨ocDi, odDi, .func (PySem.W.fnOf "_law_dice" "_law_dice" (defArgs sDice) (defBody sDice) (defScope sDice) .none kVDi dcDi pmDi anDi cdDi ctDi), slDi⟩)
    (aRo : nsIn K mainGlobals "_law_roll" = some (some (.ref fRo)))
    (lRo : K.lookup fRo = some ⟨ocRo, odRo, .func (PySem.W.fnOf "_law_roll" "_law_roll" (defArgs sRoll) (defBody sRoll) (defScope sRoll) .none kVRo dcRo pmRo anRo cdRo ctRo), slRo⟩)
    (aPi : nsIn K mainGlobals "_law_pick" = some (some (.ref fPi)))
    (lPi : K.lookup fPi = some ⟨ocPi, odPi, .func (PySem.W.fnOf "_law_pick" "_law_pick" (defArgs sPick) (defBody sPick) (defScope sPick) .none kVPi dcPi pmPi anPi cdPi ctPi), slPi⟩)
    (aIs : nsIn K mainGlobals "_law_is_small" = some (some (.ref fIs)))
    (lIs : K.lookup fIs = some ⟨ocIs, odIs, .func (PySem.W.fnOf "_law_is_small" "_law_is_small" (defArgs sIsSmall) (defBody sIsSmall) (defScope sIsSmall) .none kVIs dcIs pmIs anIs cdIs ctIs), slIs⟩)
    (aIt : nsIn K mainGlobals "_law_is_told_terminal" = some (some (.ref fIt)))
    (lIt : K.lookup fIt = some ⟨ocIt, odIt, .func (PySem.W.fnOf "_law_is_told_terminal" "_law_is_told_terminal" (defArgs sIsTold) (defBody sIsTold) (defScope sIsTold) .none kVIt dcIt pmIt anIt cdIt ctIt), slIt⟩)
    (aTo : nsIn K mainGlobals "_law_told" = some (some (.ref fTo)))
    (lTo : K.lookup fTo = some ⟨ocTo, odTo, .func (PySem.W.fnOf "_law_told" "_law_told" (defArgs sTold) (defBody sTold) (defScope sTold) .none kVTo dcTo pmTo anTo cdTo ctTo), slTo⟩)
    (aWd : nsIn K mainGlobals "_law_word" = some (some (.ref fWd)))
    (lWd : K.lookup fWd = some ⟨ocWd, odWd, .func (PySem.W.fnOf "_law_word" "_law_word" (defArgs sWordL) (defBody sWordL) (defScope sWordL) .none kVWd dcWd pmWd anWd cdWd ctWd), slWd⟩)
    (aRw : nsIn K mainGlobals "_law_row" = some (some (.ref fRw)))
    (lRw : K.lookup fRw = some ⟨ocRw, odRw, .func (PySem.W.fnOf "_law_row" "_law_row" (defArgs sRow) (defBody sRow) (defScope sRow) .none kVRw dcRw pmRw anRw cdRw ctRw), slRw⟩)
    (aEr : nsIn K mainGlobals "_law_error" = some (some (.ref fEr)))
    (lEr : K.lookup fEr = some ⟨ocEr, odEr, .func (PySem.W.fnOf "_law_error" "_law_error" (defArgs sErr) (defBody sErr) (defScope sErr) .none kVEr dcEr pmEr anEr cdEr ctEr), slEr⟩)
    (aLi : nsIn K mainGlobals "_law_lines_right" = some (some (.ref fLi)))
    (lLi : K.lookup fLi = some ⟨ocLi, odLi, .func (PySem.W.fnOf "_law_lines_right" "_law_lines_right" (defArgs sLines) (defBody sLines) (defScope sLines) .none kVLi dcLi pmLi anLi (.ref cLi) ctLi), slLi⟩)
    (aOd : nsIn K mainGlobals "_law_order_right" = some (some (.ref fOd)))
    (lOd : K.lookup fOd = some ⟨ocOd, odOd, .func (PySem.W.fnOf "_law_order_right" "_law_order_right" (defArgs sOrd) (defBody sOrd) (defScope sOrd) .none kVOd dcOd pmOd anOd cdOd ctOd), slOd⟩)
    (aRi : nsIn K mainGlobals "_law_right" = some (some (.ref fRi)))
    (lRi : K.lookup fRi = some ⟨ocRi, odRi, .func (PySem.W.fnOf "_law_right" "_law_right" (defArgs sRight) (defBody sRight) (defScope sRight) .none kVRi dcRi pmRi anRi (.ref cRi) ctRi), slRi⟩)
    (aLa : nsIn K mainGlobals "law" = some (some (.ref fLa)))
    (lLa : K.lookup fLa = some ⟨ocLa, odLa, .func (PySem.W.fnOf "law" "law" (defArgs sLaw) (defBody sLaw) (defScope sLaw) .none kVLa dcLa pmLa anLa cdLa ctLa), slLa⟩)
    (aX : nsIn K mainGlobals "InvalidText" = some (some (.ref cX)))
    (aP : nsIn K mainGlobals "ParseError" = some (some (.ref cP)))
    (xP : K.lookup cP = some (excClassObj xnm xq cP xN xbs xbm true xsn xsub xab xcol xdd x0 x1 x2 x3 x5 "ValueError.__new__"))
    (jI : findIn K (.ref cP) "__init__" = some (some (.ref fIn)))
    (lIn : K.lookup fIn = some ⟨ocIn, odIn, .func (PySem.W.fnOf "__init__" "ParseError.__init__" (defArgs sInit) (defBody sInit) (defScope sInit) .none kVIn dcIn pmIn anIn cdIn ctIn), slIn⟩)
    (cSm : nsIn K mainGlobals "SMALL_LETTERS" = some (some (.str "abcdefghijklmnopqrstuvwxyz" tSm)))
    (cLg : nsIn K mainGlobals "LARGE_LETTERS" = some (some (.str "ABCDEFGHIJKLMNOPQRSTUVWXYZ" tLg)))
    (cSg : nsIn K mainGlobals "SIGNS" = some (some (.str "!&()*+,-./:;<=>?[]^|" tSg)))
    (cMl : nsIn K mainGlobals "MAX_LETTERS" = some (some (.int 8 tMl)))
    (cMt : nsIn K mainGlobals "MAX_TEXT" = some (some (.int 60 tMt)))
    (cMs : nsIn K mainGlobals "MAX_SMALL_BEHIND" = some (some (.int 5 tMs)))
    (cEn : nsIn K mainGlobals "END" = some (some (.str "$" tEn)))
    (aO : nsIn K mainGlobals "OTHER_ACTIONS" = some (some (.ref oA)))
    (lO : K.lookup oA = some ⟨.type "tuple", ddO, .seq #[.str "shift" t1, .str "accept" t2] nO, slO⟩)
    (eLi : h.get? pLi = some { cls := .none, data := .fields #[] })
    (eRi : h.get? pRi = some { cls := .none, data := .fields #[] })
    (okD : defsB (cutK K pLi pRi) pLi pRi [(fSm, cdSm, Str.ofString "has_small_letters"), (fWo, cdWo, Str.ofString "is_word"), (fTe, cdTe, Str.ofString "is_terminal"), (fNo, cdNo, Str.ofString "is_nonterminal"), (fNa, cdNa, Str.ofString "is_name"), (fTs, cdTs, Str.ofString "is_terminals"), (fOr, cdOr, Str.ofString "text_order"), (fBe, cdBe, Str.ofString "is_before"), (fWr, cdWr, Str.ofString "write_terminals"), (fRe, cdRe, Str.ofString "read_terminals"), (fDi, cdDi, Str.ofString "_law_dice"), (fRo, cdRo, Str.ofString "_law_roll"), (fPi, cdPi, Str.ofString "_law_pick"), (fIs, cdIs, Str.ofString "_law_is_small"), (fIt, cdIt, Str.ofString "_law_is_told_terminal"), (fTo, cdTo, Str.ofString "_law_told"), (fWd, cdWd, Str.ofString "_law_word"), (fRw, cdRw, Str.ofString "_law_row"), (fEr, cdEr, Str.ofString "_law_error"), (fLi, (.ref cLi), Str.ofString "_law_lines_right"), (fOd, cdOd, Str.ofString "_law_order_right"), (fRi, (.ref cRi), Str.ofString "_law_right"), (fLa, cdLa, Str.ofString "law"), (fIn, cdIn, Str.ofString "ParseError.__init__")] = true)
    (okA : allB (cutK K pLi pRi) K cX cP fIn xbm cLi cRi pLi pRi oA = true) :
    ∃ (K' : Frag) (fd : FuncData) (cs : List (Addr × Addr)) (sp : Sp), K'.In h ∧ (∀ p ∈ cs, h.get? p.2 = some { cls := .none, data := .fields #[] }) ∧ (∀ p ∈ cs, K'.lookup p.2 = none) ∧ (∀ p ∈ cs, PySem.W.CodeHd h p.1 p.2) ∧ (∀ (s : Shared) (v : Value), BindsTo s fd ⟨[v], []⟩ [("_law_script", v)]) ∧
      (∀ (H : Hp) (a : Addr) (ns : List Int), ns.length ≤ 63 → (∀ p ∈ cs, H p.2 = some (.tbl #[])) → SqL K' H a (ns.map V.int) → sp [.ref a] H (fun v _ => v = .bl true) E0) ∧
      ∀ base : Heap, K'.In base → base.Ns mainGlobals mg → (∀ p ∈ cs, TabB base mg p.1 p.2) → FnG P w K' mg base CX0 10 fa fd ["_law_script"] sp := by
  have e := hfa.symm.trans (PySem.W.mg_of X G aLa)
  cases e
  obtain ⟨K2, eK2⟩ : ∃ K2, K2 = cutK K pLi pRi := ⟨_, rfl⟩
  rw [← eK2] at okD okA
  have up : ∀ {b : Addr} {o : Obj}, b ≠ pLi → b ≠ pRi → K.lookup b = some o → K2.lookup b = some o := fun n1 n2 e => by rw [eK2]; exact cut_up n1 n2 e
  have X2 : K2.In h := by rw [eK2]; exact cut_in X
  unfold defsB at okD
  simp only [List.all_cons, List.all_nil, Bool.and_true, Bool.and_eq_true] at okD
  obtain ⟨uSm, uWo, uTe, uNo, uNa, uTs, uOr, uBe, uWr, uRe, uDi, uRo, uPi, uIs, uIt, uTo, uWd, uRw, uEr, uLi, uOd, uRi, uLa, uIn⟩ := okD
  have vSm := defB_of uSm
  have FSm := fun_mk (st := sSmall) (up vSm.1 vSm.2.1 lSm) vSm.2.2.1 vSm.2.2.2
  have bSm := FSm.binds (ps := ["text"]) fun _ _ _ _ _ _ us hl => match us, hl with | [_], _ => rfl
  have mSm : mg "has_small_letters" = some (.ref fSm) := PySem.W.mg_of X G aSm
  have NSm : Kn K2 mg "has_small_letters" sSmall fSm _ ["text"] := ⟨FSm, mSm, bSm⟩
  have vWo := defB_of uWo
  have FWo := fun_mk (st := sWord) (up vWo.1 vWo.2.1 lWo) vWo.2.2.1 vWo.2.2.2
  have bWo := FWo.binds (ps := ["value"]) fun _ _ _ _ _ _ us hl => match us, hl with | [_], _ => rfl
  have mWo : mg "is_word" = some (.ref fWo) := PySem.W.mg_of X G aWo
  have NWo : Kn K2 mg "is_word" sWord fWo _ ["value"] := ⟨FWo, mWo, bWo⟩
  have vTe := defB_of uTe
  have FTe := fun_mk (st := sTerm) (up vTe.1 vTe.2.1 lTe) vTe.2.2.1 vTe.2.2.2
  have bTe := FTe.binds (ps := ["value"]) fun _ _ _ _ _ _ us hl => match us, hl with | [_], _ => rfl
  have mTe : mg "is_terminal" = some (.ref fTe) := PySem.W.mg_of X G aTe
  have NTe : Kn K2 mg "is_terminal" sTerm fTe _ ["value"] := ⟨FTe, mTe, bTe⟩
  have vNo := defB_of uNo
  have FNo := fun_mk (st := sNont) (up vNo.1 vNo.2.1 lNo) vNo.2.2.1 vNo.2.2.2
  have bNo := FNo.binds (ps := ["value"]) fun _ _ _ _ _ _ us hl => match us, hl with | [_], _ => rfl
  have mNo : mg "is_nonterminal" = some (.ref fNo) := PySem.W.mg_of X G aNo
  have NNo : Kn K2 mg "is_nonterminal" sNont fNo _ ["value"] := ⟨FNo, mNo, bNo⟩
  have vNa := defB_of uNa
  have FNa := fun_mk (st := sName) (up vNa.1 vNa.2.1 lNa) vNa.2.2.1 vNa.2.2.2
  have bNa := FNa.binds (ps := ["value"]) fun _ _ _ _ _ _ us hl => match us, hl with | [_], _ => rfl
  have mNa : mg "is_name" = some (.ref fNa) := PySem.W.mg_of X G aNa
  have NNa : Kn K2 mg "is_name" sName fNa _ ["value"] := ⟨FNa, mNa, bNa⟩
  have vTs := defB_of uTs
  have FTs := fun_mk (st := sTerms) (up vTs.1 vTs.2.1 lTs) vTs.2.2.1 vTs.2.2.2
  have bTs := FTs.binds (ps := ["value"]) fun _ _ _ _ _ _ us hl => match us, hl with | [_], _ => rfl
  have mTs : mg "is_terminals" = some (.ref fTs) := PySem.W.mg_of X G aTs
  have NTs : Kn K2 mg "is_terminals" sTerms fTs _ ["value"] := ⟨FTs, mTs, bTs⟩
  have vOr := defB_of uOr
  have FOr := fun_mk (st := sOrder) (up vOr.1 vOr.2.1 lOr) vOr.2.2.1 vOr.2.2.2
  have bOr := FOr.binds (ps := ["text"]) fun _ _ _ _ _ _ us hl => match us, hl with | [_], _ => rfl
  have mOr : mg "text_order" = some (.ref fOr) := PySem.W.mg_of X G aOr
  have NOr : Kn K2 mg "text_order" sOrder fOr _ ["text"] := ⟨FOr, mOr, bOr⟩
  have vBe := defB_of uBe
  have FBe := fun_mk (st := sBefore) (up vBe.1 vBe.2.1 lBe) vBe.2.2.1 vBe.2.2.2
  have bBe := FBe.binds (ps := ["one", "other"]) fun _ _ _ _ _ _ us hl => match us, hl with | [_, _], _ => rfl
  have mBe : mg "is_before" = some (.ref fBe) := PySem.W.mg_of X G aBe
  have NBe : Kn K2 mg "is_before" sBefore fBe _ ["one", "other"] := ⟨FBe, mBe, bBe⟩
  have vWr := defB_of uWr
  have FWr := fun_mk (st := sWrite) (up vWr.1 vWr.2.1 lWr) vWr.2.2.1 vWr.2.2.2
  have bWr := FWr.binds (ps := ["text"]) fun _ _ _ _ _ _ us hl => match us, hl with | [_], _ => rfl
  have mWr : mg "write_terminals" = some (.ref fWr) := PySem.W.mg_of X G aWr
  have NWr : Kn K2 mg "write_terminals" sWrite fWr _ ["text"] := ⟨FWr, mWr, bWr⟩
  have vRe := defB_of uRe
  have FRe := fun_mk (st := sRead) (up vRe.1 vRe.2.1 lRe) vRe.2.2.1 vRe.2.2.2
  have bRe := FRe.binds (ps := ["line"]) fun _ _ _ _ _ _ us hl => match us, hl with | [_], _ => rfl
  have mRe : mg "read_terminals" = some (.ref fRe) := PySem.W.mg_of X G aRe
  have NRe : Kn K2 mg "read_terminals" sRead fRe _ ["line"] := ⟨FRe, mRe, bRe⟩
  have vDi := defB_of uDi
  have FDi := fun_mk (st := sDice) (up vDi.1 vDi.2.1 lDi) vDi.2.2.1 vDi.2.2.2
  have bDi := FDi.binds (ps := ["_law_script", "_law_spot"]) fun _ _ _ _ _ _ us hl => match us, hl with | [_, _], _ => rfl
  have mDi : mg "_law_dice" = some (.ref fDi) := PySem.W.mg_of X G aDi
  have NDi : Kn K2 mg "_law_dice" sDice fDi _ ["_law_script", "_law_spot"] := ⟨FDi, mDi, bDi⟩
  have vRo := defB_of uRo
  have FRo := fun_mk (st := sRoll) (up vRo.1 vRo.2.1 lRo) vRo.2.2.1 vRo.2.2.2
  have bRo := FRo.binds (ps := ["_law_dice_here", "_law_total"]) fun _ _ _ _ _ _ us hl => match us, hl with | [_, _], _ => rfl
  have mRo : mg "_law_roll" = some (.ref fRo) := PySem.W.mg_of X G aRo
  have NRo : Kn K2 mg "_law_roll" sRoll fRo _ ["_law_dice_here", "_law_total"] := ⟨FRo, mRo, bRo⟩
  have vPi := defB_of uPi
  have FPi := fun_mk (st := sPick) (up vPi.1 vPi.2.1 lPi) vPi.2.2.1 vPi.2.2.2
  have bPi := FPi.binds (ps := ["_law_dice_here", "_law_items"]) fun _ _ _ _ _ _ us hl => match us, hl with | [_, _], _ => rfl
  have mPi : mg "_law_pick" = some (.ref fPi) := PySem.W.mg_of X G aPi
  have NPi : Kn K2 mg "_law_pick" sPick fPi _ ["_law_dice_here", "_law_items"] := ⟨FPi, mPi, bPi⟩
  have vIs := defB_of uIs
  have FIs := fun_mk (st := sIsSmall) (up vIs.1 vIs.2.1 lIs) vIs.2.2.1 vIs.2.2.2
  have bIs := FIs.binds (ps := ["_law_text", "_law_most"]) fun _ _ _ _ _ _ us hl => match us, hl with | [_, _], _ => rfl
  have mIs : mg "_law_is_small" = some (.ref fIs) := PySem.W.mg_of X G aIs
  have NIs : Kn K2 mg "_law_is_small" sIsSmall fIs _ ["_law_text", "_law_most"] := ⟨FIs, mIs, bIs⟩
  have vIt := defB_of uIt
  have FIt := fun_mk (st := sIsTold) (up vIt.1 vIt.2.1 lIt) vIt.2.2.1 vIt.2.2.2
  have bIt := FIt.binds (ps := ["_law_value"]) fun _ _ _ _ _ _ us hl => match us, hl with | [_], _ => rfl
  have mIt : mg "_law_is_told_terminal" = some (.ref fIt) := PySem.W.mg_of X G aIt
  have NIt : Kn K2 mg "_law_is_told_terminal" sIsTold fIt _ ["_law_value"] := ⟨FIt, mIt, bIt⟩
  have vTo := defB_of uTo
  have FTo := fun_mk (st := sTold) (up vTo.1 vTo.2.1 lTo) vTo.2.2.1 vTo.2.2.2
  have bTo := FTo.binds (ps := ["_law_value"]) fun _ _ _ _ _ _ us hl => match us, hl with | [_], _ => rfl
  have mTo : mg "_law_told" = some (.ref fTo) := PySem.W.mg_of X G aTo
  have NTo : Kn K2 mg "_law_told" sTold fTo _ ["_law_value"] := ⟨FTo, mTo, bTo⟩
  have vWd := defB_of uWd
  have FWd := fun_mk (st := sWordL) (up vWd.1 vWd.2.1 lWd) vWd.2.2.1 vWd.2.2.2
  have bWd := FWd.binds (ps := ["_law_dice_here"]) fun _ _ _ _ _ _ us hl => match us, hl with | [_], _ => rfl
  have mWd : mg "_law_word" = some (.ref fWd) := PySem.W.mg_of X G aWd
  have NWd : Kn K2 mg "_law_word" sWordL fWd _ ["_law_dice_here"] := ⟨FWd, mWd, bWd⟩
  have vRw := defB_of uRw
  have FRw := fun_mk (st := sRow) (up vRw.1 vRw.2.1 lRw) vRw.2.2.1 vRw.2.2.2
  have bRw := FRw.binds (ps := ["_law_dice_here"]) fun _ _ _ _ _ _ us hl => match us, hl with | [_], _ => rfl
  have mRw : mg "_law_row" = some (.ref fRw) := PySem.W.mg_of X G aRw
  have NRw : Kn K2 mg "_law_row" sRow fRw _ ["_law_dice_here"] := ⟨FRw, mRw, bRw⟩
  have vEr := defB_of uEr
  have FEr := fun_mk (st := sErr) (up vEr.1 vEr.2.1 lEr) vEr.2.2.1 vEr.2.2.2
  have bEr := FEr.binds (ps := ["_law_call"]) fun _ _ _ _ _ _ us hl => match us, hl with | [_], _ => rfl
  have mEr : mg "_law_error" = some (.ref fEr) := PySem.W.mg_of X G aEr
  have NEr : Kn K2 mg "_law_error" sErr fEr _ ["_law_call"] := ⟨FEr, mEr, bEr⟩
  have vLi := defB_of uLi
  have FLi := fun_mk (st := sLines) (up vLi.1 vLi.2.1 lLi) vLi.2.2.1 vLi.2.2.2
  have bLi := FLi.binds (ps := ["_law_dice_here", "_law_row_here"]) fun _ _ _ _ _ _ us hl => match us, hl with | [_, _], _ => rfl
  have mLi : mg "_law_lines_right" = some (.ref fLi) := PySem.W.mg_of X G aLi
  have NLi : Kn K2 mg "_law_lines_right" sLines fLi _ ["_law_dice_here", "_law_row_here"] := ⟨FLi, mLi, bLi⟩
  have vOd := defB_of uOd
  have FOd := fun_mk (st := sOrd) (up vOd.1 vOd.2.1 lOd) vOd.2.2.1 vOd.2.2.2
  have bOd := FOd.binds (ps := ["_law_row_here", "_law_other"]) fun _ _ _ _ _ _ us hl => match us, hl with | [_, _], _ => rfl
  have mOd : mg "_law_order_right" = some (.ref fOd) := PySem.W.mg_of X G aOd
  have NOd : Kn K2 mg "_law_order_right" sOrd fOd _ ["_law_row_here", "_law_other"] := ⟨FOd, mOd, bOd⟩
  have vRi := defB_of uRi
  have FRi := fun_mk (st := sRight) (up vRi.1 vRi.2.1 lRi) vRi.2.2.1 vRi.2.2.2
  have bRi := FRi.binds (ps := ["_law_dice_here"]) fun _ _ _ _ _ _ us hl => match us, hl with | [_], _ => rfl
  have mRi : mg "_law_right" = some (.ref fRi) := PySem.W.mg_of X G aRi
  have NRi : Kn K2 mg "_law_right" sRight fRi _ ["_law_dice_here"] := ⟨FRi, mRi, bRi⟩
  have vLa := defB_of uLa
  have FLa := fun_mk (st := sLaw) (up vLa.1 vLa.2.1 lLa) vLa.2.2.1 vLa.2.2.2
  have bLa := FLa.binds (ps := ["_law_script"]) fun _ _ _ _ _ _ us hl => match us, hl with | [_], _ => rfl
  have vIn := defB_of uIn
  have FIn := fun_mk (st := sInit) (up vIn.1 vIn.2.1 lIn) vIn.2.2.1 vIn.2.2.2
  have bIn := FIn.binds (ps := ["self", "line"]) fun _ _ _ _ _ _ us hl => match us, hl with | [_, _], _ => rfl
  obtain ⟨z1, z2, z3, z4, z5, z6, z7, z8, z9, z10, z11, z12, z13, z14, z15, z16, z17, z18, z19, z20, z21, z22⟩ := allB_of okA
  have nn : ∀ {n : Str}, nsIn K mainGlobals n = some none → mg n = none := fun z => PySem.W.mg_none_of X G z
  obtain ⟨q1, q2, q3, q4, q5, q6, q7, q8, q9, q10, q11, q12⟩ := nones_of z1
  have sy : Sy mg := ⟨nn q12, nn q1, nn q2, nn q3, nn q4, ⟨_, PySem.W.mg_of X G cSm⟩, ⟨_, PySem.W.mg_of X G cLg⟩, ⟨_, PySem.W.mg_of X G cSg⟩, ⟨_, PySem.W.mg_of X G cMl⟩, ⟨_, PySem.W.mg_of X G cMt⟩, ⟨_, PySem.W.mg_of X G cMs⟩⟩
  have lw : Lw mg := ⟨nn q1, nn q2, nn q4, nn q5⟩
  have lr : Lr mg := ⟨nn q6, nn q3⟩
  have bl : Blt mg := ⟨nn q4, nn q8, nn q9, nn q10⟩
  have cn : Cn mg := ⟨⟨_, PySem.W.mg_of X G cEn⟩, nn q11⟩
  have mX : mg "InvalidText" = some (.ref cX) := PySem.W.mg_of X G aX
  have mP : mg "ParseError" = some (.ref cP) := PySem.W.mg_of X G aP
  have ox : OexC K2 cP := ⟨⟨_, _, _, _, _, _, _, _, _, _, _, _, _, _, _, up z18 z19 xP, z2⟩, z3, z4, z5, z6⟩
  have er : Er K2 mg cX cP fIn _ := ⟨mX, z7, z8, z9, z10, mP, ox, z11, z12, z13, FIn, bIn⟩
  have ex : Ex K2 mg cX cP := ⟨mX, mP, z14, z15, z16, xfB_ok z17, z13, nn q7⟩
  have oth : OthAt K2 mg := ⟨oA, PySem.W.mg_of X G aO, fun H => .inr ⟨_, _, _, up z20 z21 lO, rfl, rfl, (by show 2 ≤ sizeLine; decide), .cons ⟨_, rfl⟩ (.cons ⟨_, rfl⟩ .nil)⟩⟩
  have cd1 : PySem.W.codeHdIn K2 cLi pLi = true ∧ PySem.W.codeHdIn K2 cRi pRi = true ∧ pLi ≠ pRi := z22
  refine ⟨K2, PySem.W.fnOf "law" "law" (defArgs sLaw) (defBody sLaw) (defScope sLaw) .none kVLa dcLa pmLa anLa cdLa ctLa, [(cLi, pLi), (cRi, pRi)], spLaw K2 [(pLi, qLn), (pRi, qRt)], X2, ?_, ?_, ?_, fun s v => .of_eq rfl, ?_, fun base _ _ tb => ?_⟩
  · intro p hp
    simp only [List.mem_cons, List.not_mem_nil, or_false] at hp
    rcases hp with rfl | rfl
    · exact eLi
    · exact eRi
  · intro p hp
    simp only [List.mem_cons, List.not_mem_nil, or_false] at hp
    rcases hp with rfl | rfl
    · rw [eK2]; exact cut_l
    · rw [eK2]; exact cut_r
  · intro p hp
    simp only [List.mem_cons, List.not_mem_nil, or_false] at hp
    rcases hp with rfl | rfl
    · exact PySem.W.codeHd_of_K X2 cd1.1
    · exact PySem.W.codeHd_of_K X2 cd1.2.1
  · intro H a ns hl ht hS
    refine ⟨a, ns, rfl, hS, hl, fun p hp => ?_, fun _ => rfl⟩
    simp only [List.mem_cons, List.not_mem_nil, or_false] at hp
    rcases hp with rfl | rfl
    · exact TabS.nil (ht _ (List.mem_cons_self))
    · exact TabS.nil (ht _ (List.mem_cons_of_mem _ List.mem_cons_self))
  have tl := tb (cLi, pLi) List.mem_cons_self
  have tr := tb (cRi, pRi) (List.mem_cons_of_mem _ List.mem_cons_self)
  have BL : Tb base mg [(pLi, qLn), (pRi, qRt)] cLi pLi qLn := ⟨tl, List.mem_cons_self, fun x hx e => by
    simp only [List.mem_cons, List.not_mem_nil, or_false] at hx
    rcases hx with rfl | rfl
    · rfl
    · exact absurd e (Ne.symm cd1.2.2)⟩
  have BR : Tb base mg [(pLi, qLn), (pRi, qRt)] cRi pRi qRt := ⟨tr, List.mem_cons_of_mem _ List.mem_cons_self, fun x hx e => by
    simp only [List.mem_cons, List.not_mem_nil, or_false] at hx
    rcases hx with rfl | rfl
    · exact absurd e cd1.2.2
    · rfl⟩
  have GWo := ok_word (P := P) (w := w) (base := base) FWo sy NSm
  have GTe := ok_term (P := P) (w := w) (base := base) FTe sy NWo GWo
  have GTs := ok_terms (P := P) (w := w) (base := base) FTs sy NTe GTe
  have GBe := ok_before (P := P) (w := w) (base := base) FBe sy er NTs GTs NOr
  have L : Lib P w K2 mg base cX cP := {
    lw := lw, lr := lr, bl := bl, ex := ex
    roll := ⟨_, _, ok_roll FRo bl, mRo, FRo.kp, bRo⟩
    pick := ⟨_, _, ok_pk FPi bl FRo mRo bRo, mPi, FPi.kp, bPi⟩
    word := ⟨_, _, ok_wordL FWd bl lr NRo NPi, mWd, FWd.kp, bWd⟩
    row := ⟨_, _, ok_rowL FRw bl lr NRo NPi, mRw, FRw.kp, bRw⟩
    istold := ⟨_, _, ok_istold FIt lw NIs, mIt, FIt.kp, bIt⟩
    told := ⟨_, _, ok_told FTo lw NIs NIt, mTo, FTo.kp, bTo⟩
    ord := ⟨_, _, ok_ord FOd lw (nn q7) NBe GBe, mOd, FOd.kp, bOd⟩
    term := ⟨_, _, GTe, mTe, FTe.kp, bTe⟩
    nont := ⟨_, _, ok_nont FNo sy NSm, mNo, FNo.kp, bNo⟩
    name := ⟨_, _, ok_name FNa sy oth NWo GWo, mNa, FNa.kp, bNa⟩
    terms := ⟨_, _, GTs, mTs, FTs.kp, bTs⟩
    before := ⟨_, _, GBe, mBe, FBe.kp, bBe⟩
    write := ⟨_, _, ok_write FWr sy er NTs GTs, mWr, FWr.kp, bWr⟩
    read := ⟨_, _, ok_read FRe sy er NTs GTs, mRe, FRe.kp, bRe⟩
    err := ⟨_, _, _, _, _, _, _, _, _, _, mEr, FEr.kp, up vEr.1 vEr.2.1 lEr, vEr.2.2.1, bEr⟩ }
  have L2' : Lib2 P w K2 mg base [(pLi, qLn), (pRi, qRt)] := ⟨⟨_, _, ok_lines ⟨⟨_, _, _, _, _, _, _, _, rfl, up vLi.1 vLi.2.1 lLi, vLi.2.2.1⟩, vLi.2.2.2⟩ L BL, mLi, FLi.kp, bLi⟩⟩
  have GRi := ok_right (P := P) (w := w) (base := base) ⟨⟨_, _, _, _, _, _, _, _, rfl, up vRi.1 vRi.2.1 lRi, vRi.2.2.1⟩, vRi.2.2.2⟩ L L2' BR sy
  exact ok_law FLa L sy cn (ok_dice FDi bl) mDi FDi.kp bDi GRi mRi FRi.kp bRi
end LQ
set_option Elab.async false
set_option linter.all false
set_option maxRecDepth 100000
open PySem PySem.W PyProof.Rows
set_option maxRecDepth 100000 in
set_option maxHeartbeats 0 in
theorem PySem.Challenge.cw_chosentrees_k01_symbols_and_rows_of_term_holds : PySem.Challenge.rw_chosentrees_k01_symbols_and_rows_of_term.Holds := by
  w_on; o_law; k_head; (case hw => w_witness2)
  k_fill
  refine LQ.walkGT (k := 10) (x := "_law_script") (l := PySem.Challenge.rw_chosentrees_k01_symbols_and_rows_of_term) rfl (by decide) rfl ⟨rfl, by decide, by decide⟩ (fun w h Y => ⟨PySem.W.km_in_of Y, PySem.W.km_tabs_of Y⟩) ?F
  case F =>
    intro w mg fa h KX hTb G hmg
    refine' LQ.all_mk (pLi := 184) (pRi := 196) KX G hmg ?aSm ?lSm ?aWo ?lWo ?aTe ?lTe ?aNo ?lNo ?aNa ?lNa ?aTs ?lTs ?aOr ?lOr ?aBe ?lBe ?aWr ?lWr ?aRe ?lRe ?aDi ?lDi ?aRo ?lRo ?aPi ?lPi ?aIs ?lIs ?aIt ?lIt ?aTo ?lTo ?aWd ?lWd ?aRw ?lRw ?aEr ?lEr ?aLi ?lLi ?aOd ?lOd ?aRi ?lRi ?aLa ?lLa ?aX ?aP ?xP ?jI ?lIn ?cSm ?cLg ?cSg ?cMl ?cMt ?cMs ?cEn ?aO ?lO ?eLi ?eRi ?okD ?okA
    (case aSm => k_is)
    (case lSm => k_is)
    (case aWo => k_is)
    (case lWo => k_is)
    (case aTe => k_is)
    (case lTe => k_is)
    (case aNo => k_is)
    (case lNo => k_is)
    (case aNa => k_is)
    (case lNa => k_is)
    (case aTs => k_is)
    (case lTs => k_is)
    (case aOr => k_is)
    (case lOr => k_is)
    (case aBe => k_is)
    (case lBe => k_is)
    (case aWr => k_is)
    (case lWr => k_is)
    (case aRe => k_is)
    (case lRe => k_is)
    (case aDi => k_is)
    (case lDi => k_is)
    (case aRo => k_is)
    (case lRo => k_is)
    (case aPi => k_is)
    (case lPi => k_is)
    (case aIs => k_is)
    (case lIs => k_is)
    (case aIt => k_is)
    (case lIt => k_is)
    (case aTo => k_is)
    (case lTo => k_is)
    (case aWd => k_is)
    (case lWd => k_is)
    (case aRw => k_is)
    (case lRw => k_is)
    (case aEr => k_is)
    (case lEr => k_is)
    (case aLi => k_is)
    (case lLi => k_is)
    (case aOd => k_is)
    (case lOd => k_is)
    (case aRi => k_is)
    (case lRi => k_is)
    (case aLa => k_is)
    (case lLa => k_is)
    (case aX => k_is)
    (case aP => k_is)
    (case xP => k_is)
    (case jI => k_is)
    (case lIn => k_is)
    (case cSm => k_is)
    (case cLg => k_is)
    (case cSg => k_is)
    (case cMl => k_is)
    (case cMt => k_is)
    (case cMs => k_is)
    (case cEn => k_is)
    (case aO => k_is)
    (case lO => k_is)
    (case eLi => exact hTb _ (by decide))
    (case eRi => exact hTb _ (by decide))
    (case okD => kernel_rfl)
    (case okA => kernel_rfl)
