import PyProof.Rows.All
import Wide.All
import OpenK.AllK
import Wide.FinOn
import PyProof.ReprRoads
import HandS.ForMost
import HandS.ForExc
import HandS.EndBits
import HandS.ExcInit
import KE.KExcInit
import KE.KExcIs
import HandS.IsInst
import HandS.Defaults
import HandS.ExcField
import HandS.CallSlots
import HandS.Wide
import KE.KExcLine
import PySem.Challenge.RW_lesslater_k01_fractions_made
set_option Elab.async false
set_option linter.all false
set_option maxRecDepth 100000
set_option maxHeartbeats 2000000
/-! a def that is run where no repr is under way, and the end of a law for such a def -/
namespace LL
open PySem PySem.Spec PyProof.Rows L2

structure GOk (P : Program) (w : World) (K : PySem.W.Frag) (mg : Str → Option Value) (base : Heap)
    (CX : CXT) (k : Nat) (f : Addr) (fd : FuncData) (ps : List Str) (sp : Sp) : Prop where
  many : ∀ vs H Q E, sp vs H Q E → vs.length = ps.length
  goes : ∀ (A : Around) (out : List Env) (s : Shared) (H : Hp) (args : Args) (us : List Value) (vs : List V)
    (Q : VK) (E : XK), A.guards = some [] → Room k A → Env0 P w K mg base A out s H →
    BindsTo s fd args (ps.zip us) → Vals vs us → sp vs H Q E →
    codeAny (model P w) A (.call (.ref f) args) (CR CX out P w H s Q E) s

theorem GOk.of {P : Program} {w : World} {K : PySem.W.Frag} {mg : Str → Option Value} {base : Heap}
    {CX : CXT} {k : Nat} {f : Addr} {fd : FuncData} {ps : List Str} {sp : Sp}
    (F : FnOk P w K mg base CX k f fd ps sp) : GOk P w K mg base CX k f fd ps sp where
  many := F.len
  goes := fun A out s H args us vs Q E _ a b c d e => F.run A out s H args us vs Q E a b c d e

/-- by the body -/
theorem gok_of {P : Program} {w : World} {K : PySem.W.Frag} {mg : Str → Option Value} {base : Heap}
    {x qual : Str} {st : Stmt} {f : Addr} {fd : FuncData} {N ps : List Str} {k : Nat} {sp : Sp}
    (F : Fun K x qual st f fd) (S : FnScope N ps (defScope st))
    (many : ∀ vs H Q E, sp vs H Q E → vs.length = ps.length)
    (body : ∀ (cdv : Value) (A : Around) (out : List Env) (s : Shared) (H : Hp) (vs : List V) (Q : VK) (E : XK),
      A.guards = some [] → Room k (A.deeper (envOfC qual (defScope st) s.heap.objs.size f cdv)) → sp vs H Q E →
      ∃ t, PSs (cxOf CX0 P w K mg base N qual (defScope st) f cdv A out s H E).nox (defBody st) t ∧
        t { nx := fun _ H' => Q .non H', rt := Q } (start N vs) H) :
    GOk P w K mg base CX0 (k + 1) f fd ps sp := by
  obtain ⟨oc, od, kV, doc, pm, an, cdv, ct, osl, rfl, lk, hcd⟩ := F.ex
  constructor
  · exact many
  intro A out s H args us vs Q E gd rm en bt rl pr
  have up : ∀ b o, base.get? b = some o → s.heap.get? b = some o := fun b o e => (en.bs b o e).1
  have kin := en.mod.kin.keeps up
  have lim := en.mod.nolimit.keeps up
  refine codeAny_call_function rm.depth (kin _ _ lk) rfl S.co S.gen rfl
    (PySem.W.codeRec_of kin hcd) (bt _ _ _ _ (wpAny_newFunctionEnv_cells S.kind ?par ?walk))
  case par =>
    rintro ⟨n, v⟩ hy
    cases S.par n (List.of_mem_zip hy).1 with
    | inl q => exact .inl q
    | inr q => exact .inr ⟨q, PySem.W.cellsFrom_some _ _ _ (.inl q)⟩
  case walk =>
    intro env he s1 ic
    subst he
    refine ⟨lim.keeps ic.toInCall.keep, codeAny_func ?_⟩
    obtain ⟨t, ht, hq⟩ := body cdv A out s H vs Q E gd (rm.deeper _) pr
    have J := inv_start (CX := CX0) (P := P) (w := w) (K := K) (mg := mg) (base := base) (E := E) S rm.hd en (many _ _ _ _ pr) rl ic
    refine wpAny_mono (ht.nox.run [] s1 (start N vs) H _ J hq) ?_ (fun _ _ z => z)
    intro fl s' hs
    cases fl with
    | ret u => obtain ⟨v, σ', H', J', rv, q⟩ := hs; exact ⟨v, H', J'.os, J'.bare, J'.base, J'.hok, rv, q⟩
    | next => obtain ⟨σ', H', J', q⟩ := hs; exact ⟨.non, H', J'.os, J'.bare, J'.base, J'.hok, rfl, q⟩
    | brk => obtain ⟨_, _, _, q⟩ := hs; exact q.elim
    | cont => obtain ⟨_, _, _, q⟩ := hs; exact q.elim

/-- the state ahead of the law's call, with H tracked: at most the script, which is none of the written things -/
theorem env_of {P : Program} {w : World} {K : PySem.W.Frag} {mg mb : Str → Option Value} {s : Shared} {a : Addr} {vs : List Value} {H : Hp}
    (KX : K.In s.heap) (hg : s.heap.Ns mainGlobals mg) (hb : s.heap.Ns builtinsNs mb)
    (hbb : ∀ x : Str, x ≠ "__name__" → mb x = bootBuiltins x) (hlim : s.heap.NoLimit) (hgen : s.gens = #[])
    (ha : s.heap.get? a = some { cls := .type "list", data := .seq vs.toArray })
    (only : ∀ b, H b ≠ none → b = a ∧ K.lookup b = none) (hok : HOk P w H s.heap) :
    Env0 P w K mg (hidT s.heap H) callerA [] s H ∧ (∀ b m, s.heap.Ns b m → (hidT s.heap H).Ns b m) ∧ K.In (hidT s.heap H) := by
  have clear : ∀ b o, s.heap.get? b = some o → (∀ es ep, o.data ≠ .dict es ep) ∨ H b = none := by
    intro b o e
    by_cases q : H b = none
    · exact .inr q
    · obtain ⟨rfl, _⟩ := only b q
      rw [ha] at e
      cases e
      exact .inl fun es ep z => by cases z
  have ns : ∀ b m, s.heap.Ns b m → (hidT s.heap H).Ns b m := by
    rintro b m ⟨o, es, ep, e, d, r⟩
    rcases clear b o e with z | z
    · exact absurd d (z es ep)
    · exact ⟨o, es, ep, hidT_get e z, d, r⟩
  have kin : K.In (hidT s.heap H) := by
    intro b o e
    refine hidT_get (KX b o e) ?_
    by_cases q : H b = none
    · exact q
    · rw [(only b q).2] at e
      cases e
  refine ⟨⟨rfl, ⟨kin, ns _ _ hg, ⟨mb, ns _ _ hb, hbb⟩, ?_⟩, fun b o e => of_hidT e, Nat.le_of_eq (hidT_size _ _), trivial, ?_, hok, .of_eq hgen⟩, ns, kin⟩
  · obtain ⟨mc, h1, h2⟩ := hlim
    exact ⟨mc, ns _ _ h1, h2⟩
  · intro b hb
    cases hb

theorem run_law {P : Program} {w : World} {K : PySem.W.Frag} {mg mb : Str → Option Value} {k : Nat} {fa a : Addr} {fd : FuncData} {x : Str} {sp : Sp} {s : Shared} {vs : List Value} {ns : List Int}
    (KX : K.In s.heap) (hg : s.heap.Ns mainGlobals mg) (hb : s.heap.Ns builtinsNs mb) (hm : ∃ mm, s.heap.Ns sysModules mm)
    (hbb : ∀ x : Str, x ≠ "__name__" → mb x = bootBuiltins x) (hlim : s.heap.NoLimit) (hgen : s.gens = #[])
    (ha : s.heap.get? a = some { cls := .type "list", data := .seq vs.toArray }) (hi : IntsAre vs ns) (hl : ns.length ≤ sizeLine) (hr : Room k callerA)
    (F : ∀ base : Heap, K.In base → base.Ns mainGlobals mg → (∃ mm, base.Ns sysModules mm) → GOk P w K mg base CX0 k fa fd [x] sp)
    (bind : ∀ (s : Shared) (u : Value), BindsTo s fd ⟨[u], []⟩ [(x, u)])
    (hsp : ∀ H : Hp, Only H → SqL K H a (ns.map V.int) → sp [.ref a] H (fun v _ => v = .bl true) fun _ _ _ => False) :
    codeAny (model P w) callerA (.call (.ref fa) ⟨[.ref a], []⟩)
      (fun r s' => r = .ok (.ret (.bool true)) ∧ OldK s.heap s'.heap ∧ s'.os = s.os ∧ AllBare s'.gens) s := by
  have rv := vals_ints hi
  have all : ∀ H : Hp, Only H → SqL K H a (ns.map V.int) → HOk P w H s.heap → (∀ b, H b ≠ none → b = a ∧ K.lookup b = none) →
      codeAny (model P w) callerA (.call (.ref fa) ⟨[.ref a], []⟩)
        (fun r s' => r = .ok (.ret (.bool true)) ∧ OldK s.heap s'.heap ∧ s'.os = s.os ∧ AllBare s'.gens) s := by
    intro H on sq hok only
    obtain ⟨en, nsk, kin⟩ := env_of KX hg hb hbb hlim hgen ha only hok
    have sm : ∃ mm, (hidT s.heap H).Ns sysModules mm := by
      obtain ⟨mm, q⟩ := hm
      exact ⟨mm, nsk _ _ q⟩
    refine codeAny_mono ((F _ kin (nsk _ _ hg) sm).goes callerA [] s H ⟨[.ref a], []⟩ [.ref a] [.ref a] _ _ rfl hr en (bind s (.ref a)) (.cons rfl .nil) (hsp H on sq)) ?_
    intro r s' h
    match r, h with
    | .error e, h => exact False.elim h
    | .ok (.ret u), h =>
      obtain ⟨v, H', os, bare, un, hok', ru, q⟩ := h
      have q' : v = .bl true := q
      subst q'
      cases (show u = Value.bool true from ru)
      refine ⟨rfl, OldK.of_keep fun b o e => ?_, os, bare⟩
      by_cases q : H b = none
      · exact un.keep b o e q (fun z => nomatch z) (fun z => nomatch z)
      · rcases on b with z | ⟨ob, xs, z⟩
        · exact absurd z q
        · have e1 := (hok b _ z).1
          have e2 := (hok' b _ (un.frzs b ob _ z)).1
          rw [e1] at e
          rw [e2]
          exact e
    | .ok .next, h => exact False.elim h
    | .ok .brk, h => exact False.elim h
    | .ok .cont, h => exact False.elim h
  cases hk : K.lookup a with
  | some o =>
    have e := KX a o hk
    rw [ha] at e
    cases e
    exact all (fun _ => none) (fun _ => .inl rfl)
      (.inr ⟨_, vs.toArray, _, hk, rfl, rfl, rfl, by rw [List.size_toArray, hi.length]; exact hl, by simpa using rv⟩)
      (fun b u z => by cases z) (fun b z => absurd rfl z)
  | none =>
    have at_ : ∀ b : Addr, b ≠ a → (fun b : Addr => if b = a then some (HO.frz { cls := .type "list", data := .seq vs.toArray } (.lst (ns.map V.int))) else none) b = none := fun b hb => if_neg hb
    refine all (fun b => if b = a then some (.frz { cls := .type "list", data := .seq vs.toArray } (.lst (ns.map V.int))) else none) ?_ ?_ ?_ ?_
    · intro b
      by_cases hb : b = a
      · exact .inr ⟨_, _, if_pos hb⟩
      · exact .inl (at_ b hb)
    · exact .inl (.inr ⟨{ cls := .type "list", data := .seq vs.toArray }, if_pos rfl⟩)
    · intro b u z
      dsimp only at z
      by_cases hb : b = a
      · subst hb
        rw [if_pos rfl] at z
        cases z
        exact ⟨ha, by rw [List.length_map]; exact hl, vs, _, rv, ha⟩
      · rw [if_neg hb] at z
        cases z
    · intro b z
      by_cases hb : b = a
      · exact ⟨hb, by rw [hb]; exact hk⟩
      · exact absurd (at_ b hb) z

/-- the end of a law whose def reprs; the script's bits told -/
theorem walk_G {l : PySem.W.OpenLaw} {n k : Nat} {q : Program} {loose : List Str} {XP : (Str → Option Value) → Heap → Prop} {YP : World → Heap → Prop} {d : DefRec} {K : Params → PySem.W.Frag} {sp : World → Sp} {x : Str}
    (hn : l.most = some n) (hn2 : n ≤ sizeLine) (hdf : d.params.defaults = []) (hi : importsNone q = true) (hr : Room k callerA)
    (hY : ∀ (w : World) (h : Heap), YP w h → (K w.params).In h)
    (F : ∀ (w : World) (mg : Str → Option Value) (fa : Addr) (h : Heap), (K w.params).In h → h.Ns mainGlobals mg → mg d.name = some (.ref fa) →
      ∃ fd : FuncData, (∀ (s : Shared) (u : Value), BindsTo s fd ⟨[u], []⟩ [(x, u)]) ∧
        ∀ base : Heap, (K w.params).In base → base.Ns mainGlobals mg → (∃ mm, base.Ns sysModules mm) → GOk l.prog w (K w.params) mg base CX0 k fa fd [x] (sp w))
    (hsp : ∀ (w : World) (H : Hp) (a : Addr) (ns : List Int), ns.length ≤ n → (∀ z ∈ ns, Builtin.Int.intBits z ≤ 1048576) → Only H → SqL (K w.params) H a (ns.map V.int) → sp w [.ref a] H (fun v _ => v = .bl true) fun _ _ _ => False) :
    PySem.W.WalkO q loose XP YP l.row.toRowW d [] (fun f vs => PySem.call f vs) := by
  refine Att.attach_callB hn hdf ?_
  intro w s₀ s₁ mg mb fa o pm cd doc a vs ns G Y ho hd hcd hmg hobj hints hlen hbits hg
  have KX := hY w _ Y
  obtain ⟨fd, bnd, hF⟩ := F w mg fa _ KX G.T.g hmg
  have sm : ∃ mm, s₁.heap.Ns sysModules mm := by
    obtain ⟨mm, z, _⟩ := (G.T.seer hi).mods
    exact ⟨mm, z⟩
  exact run_law KX G.T.g G.T.b sm G.T.builtins G.T.nolimit hg hobj hints (Nat.le_trans hlen hn2) hr hF bnd fun H on sq => hsp w H a ns hlen hbits on sq
end LL

set_option Elab.async false
set_option linter.all false
set_option maxRecDepth 100000
set_option maxHeartbeats 2000000
/-! data that may hold dicts; repr of them; literals -/
namespace LL
open PySem PySem.Spec PyProof.Rows L2

def kD : Key → PyData
  | .inl i => .int i
  | .inr x => .str x
mutual
inductive Dq (K : PySem.W.Frag) (H : Hp) : V → PyData → Prop
  | non : Dq K H .non .none
  | bl (b : Bool) : Dq K H (.bl b) (.bool b)
  | int (i : Int) : Dq K H (.int i) (.int i)
  | str (x : Str) : Dq K H (.str x) (.str x)
  | lst {a : Addr} {xs : List V} {ds : List PyData} (h : SqL K H a xs) (r : DqAll K H xs ds) : Dq K H (.ref a) (.list ds)
  | tup {a : Addr} {xs : List V} {ds : List PyData} (h : SqT K H a xs) (r : DqAll K H xs ds) : Dq K H (.ref a) (.tuple ds)
  | dct {a : Addr} {kvs : List (Key × V)} {ds : List PyData} (h : H a = some (.dK kvs)) (r : DqAll K H (kvs.map (·.2)) ds) : Dq K H (.ref a) (.dict ((kvs.map fun p => kD p.1).zip ds))
inductive DqAll (K : PySem.W.Frag) (H : Hp) : List V → List PyData → Prop
  | nil : DqAll K H [] []
  | cons {v : V} {vs : List V} {d : PyData} {ds : List PyData} (h : Dq K H v d) (r : DqAll K H vs ds) : DqAll K H (v :: vs) (d :: ds)
end

theorem DqAll.length {K : PySem.W.Frag} {H : Hp} : ∀ {vs : List V} {ds : List PyData}, DqAll K H vs ds → vs.length = ds.length
  | _, _, .nil => rfl
  | _, _, .cons _ r => by rw [List.length_cons, List.length_cons, DqAll.length r]
theorem DqAll.get {K : PySem.W.Frag} {H : Hp} : ∀ {vs : List V} {ds : List PyData} {i : Nat} {v : V}, DqAll K H vs ds → vs[i]? = some v → ∃ d, ds[i]? = some d ∧ Dq K H v d
  | _, _, 0, _, .cons h _, e => by cases e; exact ⟨_, rfl, h⟩
  | _, _, i + 1, v, .cons _ r, e => DqAll.get (i := i) r e
theorem DqAll.append {K : PySem.W.Frag} {H : Hp} : ∀ {vs ws : List V} {ds es : List PyData}, DqAll K H vs ds → DqAll K H ws es → DqAll K H (vs ++ ws) (ds ++ es)
  | _, _, _, _, .nil, s => s
  | _, _, _, _, .cons h r, s => .cons h (DqAll.append r s)

theorem Same.seqT {K : PySem.W.Frag} {H H' : Hp} {a : Addr} {xs : List V} (e : Same H H') (h : SqT K H a xs) : SqT K H' a xs := by
  rcases h with (h | ⟨o, h⟩) | h
  · exact .inl (.inl (e _ _ h))
  · exact .inl (.inr ⟨o, e _ _ h⟩)
  · exact .inr h
mutual
theorem Dq.up {K : PySem.W.Frag} {H H' : Hp} (e : Same H H') : ∀ {v : V} {d : PyData}, Dq K H v d → Dq K H' v d
  | _, _, .non => .non
  | _, _, .bl b => .bl b
  | _, _, .int i => .int i
  | _, _, .str x => .str x
  | _, _, .lst h r => .lst (e.seq h) (DqAll.up e r)
  | _, _, .tup h r => .tup (Same.seqT e h) (DqAll.up e r)
  | _, _, .dct h r => .dct (e _ _ h) (DqAll.up e r)
theorem DqAll.up {K : PySem.W.Frag} {H H' : Hp} (e : Same H H') : ∀ {v : List V} {d : List PyData}, DqAll K H v d → DqAll K H' v d
  | _, _, .nil => .nil
  | _, _, .cons h r => .cons (Dq.up e h) (DqAll.up e r)
end

section
variable {X : Cx} {pins : List (Addr × Obj)} {σ : L2.St} {H : Hp} {s : Shared}
theorem keys_read {h : Heap} {P : Program} {w : World} : ∀ {es : List DictEntry} {kvs : List (Key × V)} {vs : List (Key × Value)}, Pairs (mixKind P w) es vs → KV kvs vs → ReadsAll h (es.map (·.key)) (kvs.map fun p => kD p.1) []
  | _, _, _, .nil, r => by cases r; exact .nil
  | _, _, _, .cons (e := e) (kv := kv) hk hv q, r => by
    cases r with
    | cons r1 r2 =>
      rename_i p ps
      have t := keys_read (h := h) q r2
      have one : Reads h e.key (kD p.1) [] := by
        rw [r1.1]
        rcases keyIs_shape (show keyIs kv.1 e.key = true from hk) with ⟨i, u, z1, z2⟩ | ⟨x, u, z1, z2⟩
        · rw [z1, z2]; exact .int i u
        · rw [z1, z2]; exact .str x u
      exact ReadsAll.cons one t
theorem vals_of {P : Program} {w : World} : ∀ {es : List DictEntry} {kvs : List (Key × V)} {vs : List (Key × Value)}, Pairs (mixKind P w) es vs → KV kvs vs → Vals (kvs.map (·.2)) (es.map (·.val))
  | _, _, _, .nil, r => by cases r; exact .nil
  | _, _, _, .cons (e := e) (kv := kv) hk hv q, r => by
    cases r with
    | cons r1 r2 => exact .cons (by show RelV _ e.val; rw [hv]; exact r1.2) (vals_of q r2)
mutual
theorem Dq.reads (I : Inv X pins σ H s) (sm : ∃ mm, s.heap.Ns sysModules mm) : ∀ {v : V} {d : PyData} {u : Value}, Dq X.K H v d → RelV v u → ∃ as, Reads s.heap u d as ∧ sysModules ∉ as
  | _, _, _, .non, r => by cases r; exact ⟨_, .none, by simp⟩
  | _, _, _, .bl b, r => by cases r; exact ⟨_, .bool b, by simp⟩
  | _, _, _, .int i, r => by obtain ⟨t, rfl⟩ := r; exact ⟨_, .int i t, by simp⟩
  | _, _, _, .str x, r => by obtain ⟨t, rfl⟩ := r; exact ⟨_, .str x t, by simp⟩
  | _, _, _, .lst h q, r => by
    cases r
    obtain ⟨its, rv, ⟨o, n, ho, hc, _, hd⟩, _⟩ := I.list h
    obtain ⟨as, hr, na⟩ := DqAll.reads I sm q rv
    refine ⟨_, Reads.list ho hc hd hr, ?_⟩
    rw [List.mem_cons]
    rintro (z | z)
    · obtain ⟨mm, o', es, ep, e, d, _⟩ := sm
      rw [z, ho] at e
      cases e
      rw [hd] at d
      cases d
    · exact na z
  | _, _, _, .tup h q, r => by
    cases r
    obtain ⟨its, rv, ⟨o, ho, hc, n, hd⟩, _⟩ := I.tuple h
    obtain ⟨as, hr, na⟩ := DqAll.reads I sm q rv
    exact ⟨_, Reads.tuple ho hc hd hr, na⟩
  | _, _, _, .dct (kvs := kvs) (ds := ds) h q, r => by
    cases r
    obtain ⟨_, ns, vs, kv, o, es, ep, ho, hx, hd, _, pr, _⟩ := I.hok _ _ h
    obtain ⟨as, hr, na⟩ := DqAll.reads I sm q (vals_of pr kv)
    have hl : (kvs.map fun p => kD p.1).length = ds.length := by
      have z := q.length
      rw [List.length_map] at z ⊢
      exact z
    refine ⟨_, Reads.dict ho hx.1 hd (as := []) (bs := as) ?_ ?_, ?_⟩
    · rw [List.map_fst_zip (Nat.le_of_eq hl)]
      exact keys_read pr kv
    · rw [List.map_snd_zip (Nat.le_of_eq hl.symm)]
      exact hr
    · rw [List.cons_append, List.nil_append, List.mem_cons]
      rintro (z | z)
      · rw [← z] at ns
        simp at ns
      · exact na z
theorem DqAll.reads (I : Inv X pins σ H s) (sm : ∃ mm, s.heap.Ns sysModules mm) : ∀ {v : List V} {d : List PyData} {u : List Value}, DqAll X.K H v d → Vals v u → ∃ as, ReadsAll s.heap u d as ∧ sysModules ∉ as
  | _, _, _, .nil, r => by cases r; exact ⟨_, .nil, by simp⟩
  | _, _, _, .cons h q, r => by
    cases r with
    | cons r1 r2 =>
      obtain ⟨as, z1, n1⟩ := Dq.reads I sm h r1
      obtain ⟨bs, z2, n2⟩ := DqAll.reads I sm q r2
      refine ⟨_, ReadsAll.cons z1 z2, ?_⟩
      rw [List.mem_append]
      rintro (z | z)
      · exact n1 z
      · exact n2 z
end
/-- repr(v) of such data -/
def rRepr (K : PySem.W.Frag) : List V → Hp → VK → Prop := fun xs H Q => ∃ (v : V) (d : PyData), xs = [v] ∧ Dq K H v d ∧ d.showable = true ∧ d.depth ≤ 60 ∧ d.shown.length ≤ sizeLine ∧ Q (.str d.shown) H
theorem call_repr (hg : X.A.guards = some []) (hu : X.A.units + 64 < cLine) (sm : ∃ mm, X.base.Ns sysModules mm) : CallR X (.builtin "repr") (rRepr X.K) := by
  intro pins s σ H xs us Q I r h
  obtain ⟨v, d, rfl, hd, hs, hz, hl, q⟩ := h
  obtain ⟨u, rfl, ru⟩ := vals1 r
  have sm' : ∃ mm, s.heap.Ns sysModules mm := by
    obtain ⟨mm, z⟩ := sm
    exact ⟨mm, z.keeps I.bk⟩
  cases hd with
  | non =>
    cases ru
    rw [PyData.shown_none] at q
    exact PySem.P.repr_of_none ⟨.str _, H, I.tok _, ⟨_, rfl⟩, q⟩
  | bl b =>
    cases ru
    rw [PyData.shown_bool] at q
    exact PySem.P.repr_of_bool ⟨.str _, H, I.tok _, ⟨_, rfl⟩, q⟩
  | int i =>
    obtain ⟨t, rfl⟩ := ru
    rw [PyData.shown_int] at q
    exact PySem.P.repr_of_int (by simpa [PyData.showable] using hs) ⟨.str _, H, I.tok _, ⟨_, rfl⟩, q⟩
  | str x =>
    obtain ⟨t, rfl⟩ := ru
    rw [PyData.shown_str] at q hl
    exact PySem.P.repr_of_str ⟨.str _, H, I.tok _, ⟨_, rfl⟩, q⟩ hl
  | lst a b =>
    obtain ⟨as, rd, na⟩ := Dq.reads I sm' (.lst a b) ru
    cases ru
    exact repr_of_reads' rd hs (fun _ => na) hg (by omega) (fun _ _ e => e) (fun h' u tk hk => ⟨.str _, H, I.kept hk, ⟨u, rfl⟩, q⟩) hl
  | tup a b =>
    obtain ⟨as, rd, na⟩ := Dq.reads I sm' (.tup a b) ru
    cases ru
    exact repr_of_reads' rd hs (fun _ => na) hg (by omega) (fun _ _ e => e) (fun h' u tk hk => ⟨.str _, H, I.kept hk, ⟨u, rfl⟩, q⟩) hl
  | dct a b =>
    obtain ⟨as, rd, na⟩ := Dq.reads I sm' (.dct a b) ru
    cases ru
    exact repr_of_reads' rd hs (fun _ => na) hg (by omega) (fun _ _ e => e) (fun h' u tk hk => ⟨.str _, H, I.kept hk, ⟨u, rfl⟩, q⟩) hl
end
end LL

set_option Elab.async false
set_option linter.all false
set_option maxRecDepth 100000
set_option maxHeartbeats 2000000
/-! literals: what they are as data, apart from each thing that stood before -/
namespace LL
open PySem PySem.Spec PyProof.Rows L2

/-- the tracked heap without b -/
def wo (H : Hp) (b : Addr) : Hp := fun c => if c = b then none else H c
theorem wo_ne {H : Hp} {b c : Addr} (h : c ≠ b) : wo H b c = H c := if_neg h
theorem wo_self {H : Hp} {b : Addr} : wo H b b = none := if_pos rfl
theorem wo_same {H : Hp} {b : Addr} : Same (wo H b) H := fun c o e => by
  by_cases h : c = b
  · rw [h, wo_self] at e; cases e
  · rwa [wo_ne h] at e
theorem wo_up {H H' : Hp} {b : Addr} (s : Same H H') : Same (wo H b) (wo H' b) := fun c o e => by
  by_cases h : c = b
  · rw [h, wo_self] at e; cases e
  · rw [wo_ne h] at e ⊢; exact s c o e
theorem wo_at {H : Hp} {b c : Addr} {o : HO} (h : H c = some o) (n : c ≠ b) : wo H b c = some o := by rw [wo_ne n]; exact h
/-- all but b is as it was -/
def But (b : Addr) (H H' : Hp) : Prop := ∀ c o, c ≠ b → H c = some o → H' c = some o
theorem But.wo {b : Addr} {H H' : Hp} (s : But b H H') : Same (wo H b) (wo H' b) := fun c o e => by
  by_cases h : c = b
  · rw [h, wo_self] at e; cases e
  · rw [wo_ne h] at e ⊢; exact s c o h e
theorem But.of {b : Addr} {H H' : Hp} (s : Same H H') : But b H H' := fun c o _ e => s c o e
theorem But.trans {b : Addr} {H H1 H2 : Hp} (s : But b H H1) (t : But b H1 H2) : But b H H2 := fun c o n e => t c o n (s c o n e)
theorem But.upd {b : Addr} {H : Hp} {o : HO} : But b H (upd H b o) := fun c u n e => by rw [upd_ne n]; exact e
theorem same_new {H : Hp} {p : Addr} {o : HO} (h : H p = none) : Same H (upd H p o) := fun c u e => by
  rw [upd_ne (ne_of_none e h)]; exact e

/-- v is d at H', and shares nothing that can change with what stood at H -/
structure Fresh (K : PySem.W.Frag) (H H' : Hp) (v : V) (d : PyData) : Prop where
  dat : Dq K H' v d
  sep : ∀ b, H b ≠ none → Dq K (wo H' b) v d
structure FreshAll (K : PySem.W.Frag) (H H' : Hp) (vs : List V) (ds : List PyData) : Prop where
  dat : DqAll K H' vs ds
  sep : ∀ b, H b ≠ none → DqAll K (wo H' b) vs ds
def tLit (K : PySem.W.Frag) (d : PyData) : TE := fun σ H Q => ∀ v H', Same H H' → Fresh K H H' v d → Q v H'
/-- a written list, with its place -/
def tLitL (K : PySem.W.Frag) (ds : List PyData) : TE := fun σ H Q => ∀ p vs H', Same H H' → H p = none → H' p = some (.lst vs) → FreshAll K H H' vs ds → Q (.ref p) H'
def tLits (K : PySem.W.Frag) (ds : List PyData) : TA := fun σ H Q => ∀ vs H', Same H H' → FreshAll K H H' vs ds → Q vs H'
section
variable {X : Cx} {e : Expr} {es : List Expr} {d : PyData} {ds : List PyData} {pos : Pos}
theorem imp {t t' : TE} (h : PE X e t) (w : ∀ σ H Q, t' σ H Q → t σ H Q) : PE X e t' := ⟨fun pins s σ H Q I q => h.run pins s σ H Q I (w σ H Q q)⟩
theorem impA {t t' : TA} (h : PA X es t) (w : ∀ σ H Q, t' σ H Q → t σ H Q) : PA X es t' := ⟨fun pos pins s σ H Q I q => h.run pos pins s σ H Q I (w σ H Q q)⟩
theorem lit_non {j : Nat} : PE X (.Constant .none j pos) (tLit X.K .none) := imp pe_non fun σ H Q q => q _ _ (Same.refl _) ⟨.non, fun _ _ => .non⟩
theorem lit_bl {b : Bool} {j : Nat} : PE X (.Constant (.bool b) j pos) (tLit X.K (.bool b)) := imp pe_bl fun σ H Q q => q _ _ (Same.refl _) ⟨.bl _, fun _ _ => .bl _⟩
theorem lit_int {i : Int} {j : Nat} : PE X (.Constant (.int i) j pos) (tLit X.K (.int i)) := imp pe_int fun σ H Q q => q _ _ (Same.refl _) ⟨.int _, fun _ _ => .int _⟩
theorem lit_str {x : Str} {j : Nat} : PE X (.Constant (.str x) j pos) (tLit X.K (.str x)) := imp pe_str fun σ H Q q => q _ _ (Same.refl _) ⟨.str _, fun _ _ => .str _⟩
theorem lit_neg {i : Int} {e : Expr} (h : PE X e (tLit X.K (.int i))) : PE X (.UnaryOp .USub e pos) (tLit X.K (.int (-i))) :=
  imp (pe_un un_neg h) fun σ H Q q v H' s f => by
    cases f.dat
    exact ⟨i, rfl, q _ _ s ⟨.int _, fun _ _ => .int _⟩⟩
theorem lit_pow {i n : Int} {j j' : Nat} {p p' : Pos} (hi : i.natAbs < 2 ^ 64 := by decide) (h0 : 0 ≤ n := by decide) (hn : n ≤ 1000000 := by decide) : PE X (.BinOp (.Constant (.int i) j p) .Pow (.Constant (.int n) j' p') pos) (tLit X.K (.int (i ^ n.toNat))) :=
  imp (pe_op op_pow pe_int pe_int) fun σ H Q q => ⟨i, n, rfl, rfl, ⟨h0, hn, hi⟩, q _ _ (Same.refl _) ⟨.int _, fun _ _ => .int _⟩⟩
theorem lits_nil : PA X [] (tLits X.K []) := impA pa_nil fun σ H Q q => q _ _ (Same.refl _) ⟨.nil, fun _ _ => .nil⟩
theorem lits_cons (h : PE X e (tLit X.K d)) (r : PA X es (tLits X.K ds)) (hs : starEach (e :: es) X.env = (false, eval e X.env) :: starEach es X.env := by rfl) : PA X (e :: es) (tLits X.K (d :: ds)) :=
  impA (pa_cons h r hs) fun σ H Q q v H1 s1 f1 vs H2 s2 f2 => q _ _ (s1.trans s2) ⟨.cons (f1.dat.up s2) f2.dat, fun b hb => .cons ((f1.sep b hb).up (wo_up s2)) (f2.sep b fun z => hb (s1.free z))⟩
theorem lit_tup {k : Nat} (h : PA X es (tLits X.K ds)) (hl : ds.length ≤ 1000 := by decide) : PE X (.Tuple es k pos) (tLit X.K (.tuple ds)) :=
  imp (pe_tup h) fun σ H Q q vs H1 s1 f1 => ⟨by rw [f1.dat.length]; exact Nat.le_of_lt (small1000 hl), fun p np => q _ _ (s1.trans (same_new np))
    ⟨.tup (.inl (.inl upd_same)) (f1.dat.up (same_new np)), fun b hb => .tup (.inl (.inl (wo_at upd_same fun z => hb (s1.free (by rw [← z]; exact np))))) ((f1.sep b hb).up (wo_up (same_new np)))⟩⟩
theorem lit_lst (h : PA X es (tLits X.K ds)) (hl : ds.length ≤ 1000 := by decide) : PE X (.List es pos) (tLit X.K (.list ds)) :=
  imp (pe_lst h) fun σ H Q q vs H1 s1 f1 => ⟨by rw [f1.dat.length]; exact Nat.le_of_lt (small1000 hl), fun p np => q _ _ (s1.trans (same_new np))
    ⟨.lst (.inl (.inl upd_same)) (f1.dat.up (same_new np)), fun b hb => .lst (.inl (.inl (wo_at upd_same fun z => hb (s1.free (by rw [← z]; exact np))))) ((f1.sep b hb).up (wo_up (same_new np)))⟩⟩
theorem lit_lstT (h : PA X es (tLits X.K ds)) (hl : ds.length ≤ 1000 := by decide) : PE X (.List es pos) (tLitL X.K ds) :=
  imp (pe_lst h) fun σ H Q q vs H1 s1 f1 => ⟨by rw [f1.dat.length]; exact Nat.le_of_lt (small1000 hl), fun p np => q p vs _ (s1.trans (same_new np)) (s1.free np) upd_same
    ⟨f1.dat.up (same_new np), fun b hb => (f1.sep b hb).up (wo_up (same_new np))⟩⟩
theorem lit_d0 : PE X (.Dict [] [] pos) (tLit X.K (.dict [])) :=
  imp pe_dnewK fun σ H Q q p np => q _ _ (same_new np)
    ⟨.dct (kvs := []) (ds := []) upd_same .nil, fun b hb => .dct (kvs := []) (ds := []) (wo_at upd_same fun z => hb (by rw [← z]; exact np)) .nil⟩
/-- {x: e}, x a written text, e written and flat -/
theorem lit_d1 {x : Str} {i : Int} {j j' : Nat} {p p' : Pos} : PE X (.Dict [some (.Constant (.str x) j p)] [.Constant (.int i) j' p'] pos) (tLit X.K (.dict [(.str x, .int i)])) :=
  imp (pe_disp (pps_cons pe_str pe_int pps_nil) (by rfl) (by rfl) (fun z => by cases z) (by show 1 ≤ 15; decide)) fun σ H Q q p np =>
    ⟨upd_same, [(.inr x, .int i)], rfl, by show 1 ≤ 15; decide, by
      rw [upd_upd]
      refine q _ _ (same_new np) ⟨.dct (kvs := [(.inr x, .int i)]) (ds := [.int i]) upd_same (.cons (.int i) .nil), fun b hb => .dct (kvs := [(.inr x, .int i)]) (ds := [.int i]) (wo_at upd_same fun z => hb (by rw [← z]; exact np)) (.cons (.int i) .nil)⟩⟩
end
theorem wo_upd {H : Hp} {b : Addr} {o : HO} : wo (upd H b o) b = wo H b := by
  funext c
  by_cases h : c = b
  · rw [h, wo_self, wo_self]
  · rw [wo_ne h, wo_ne h, upd_ne h]
theorem DqAll.mem {K : PySem.W.Frag} {H : Hp} {v : V} : ∀ {vs : List V} {ds : List PyData}, DqAll K H vs ds → v ∈ vs → ∃ d, d ∈ ds ∧ Dq K H v d
  | _, _, .nil, h => by cases h
  | _, _, .cons q r, h => by
    rcases List.mem_cons.mp h with rfl | h
    · exact ⟨_, List.mem_cons_self, q⟩
    · obtain ⟨d, m, z⟩ := DqAll.mem r h
      exact ⟨d, List.mem_cons_of_mem _ m, z⟩
end LL

set_option Elab.async false
set_option linter.all false
set_option maxRecDepth 100000
set_option maxHeartbeats 4000000
/-! own errors as values: made by their __init__, over any built-in base -/
namespace LL
open PySem PySem.W PySem.Calls PyProof.Rows Builtin Builtin.ObjectAttr

/-- what the written part says of an error's class -/
structure ExT (K : Frag) (C : Addr) (bmB : List Value) (newId : String) : Prop where
  own : excInitIn K C bmB newId = true
  over : excOver K C bmB = true
  sa : findIn K (.ref C) "__setattr__" = some (some (.builtin "object.__setattr__"))
  hd : hasDictIn K C = true
  ga : findIn K (.ref C) "__getattribute__" = some (some (.builtin "BaseException.__getattribute__"))
  gg : findIn K (.ref C) "__getattr__" = some none
  sub : subIn K (.ref C) (.type "BaseException") = some true
  kp : keepIn K (.ref C) = true

section
variable {prog : Program} {w : World} {A : Around} {E : Value → Shared → Prop} {R : Result → Shared → Prop} {K : Frag} {C x : Addr} {B newId initId : String} {bmB : List Value}
  {hp : Heap} {g : Array GenState} {d : Drawn} {t : Nat} {os : OsState}

theorem no_taker {n : Str} (h : findIn K (.ref C) n = some none) : takerIn K C n = some none := by
  unfold takerIn
  rw [h]
  rfl

/-- the first field: the dict is laid -/
theorem put_first {n : Str} {tk : Tok} {v : Value} {t0 : Addr} (SF : StoreFacts B bmB "object.__setattr__" "object") (T : ExT K C bmB newId) (no : findIn K (.ref C) n = some none) (X : K.In hp)
    (hx : hp.get? x = some (HandSPX.excO C t0))
    (hq : ∀ h' tk' dx, (∀ b o, b ≠ x → hp.get? b = some o → h'.get? b = some o) → hp.objs.size ≤ dx → dx ≠ x → h'.get? x = some { HandSPX.excO C t0 with dict := some dx } →
      h'.Ns1 dx (fun y => if y = n then some v else none) → R (.ok (.ret .none)) ⟨h', g, d, tk', os⟩) :
    codeAny (model prog w) A (.call (.builtin "object.__setattr__") ⟨[.ref x, .str n tk, v], []⟩) R ⟨hp, g, d, t, os⟩ := by
  have ne : x ≠ hp.objs.size := Nat.ne_of_lt (Heap.lt_size hx)
  refine osa_openX (s := ⟨hp, g, d, t, os⟩) (od := none) SF X ⟨hx, rfl, rfl, trivial⟩ T.over (no_taker no) fun b => ?_
  obtain ⟨cd, hc, hd'⟩ := any_some T.hd
  refine wpAny_bind (wpAny_pure (wpAny_bind (instanceDict_exc (t := t0) (c2 := .none) hx (looks_clsIn X hc) hd' ?_)))
  show wpAny _ _ (storeInDict hp.objs.size (.str n tk) n v) _ _ _
  refine PX.store_in_new ?_ ?_
  · exact ⟨_, #[], _, (Heap.get?_update_ne _ _ _ _ ne.symm).trans (Heap.get?_push_at rfl rfl), rfl, fun e he => absurd he (by simp), fun _ => rfl⟩
  · intro h' tk' ns sb
    refine hq h' tk' hp.objs.size (fun b o hb ho => ?_) (Nat.le_refl _) ne.symm ?_ ns
    · rw [sb.2 b (Nat.ne_of_lt (Heap.lt_size ho)), Heap.get?_update_ne _ _ _ _ hb]
      exact Heap.get?_push_of_some _ ho
    · rw [sb.2 x ne, Heap.get?_update_self _ (Heap.get?_push_of_some _ hx) rfl]

/-- a further one -/
theorem put_next {n : Str} {tk : Tok} {v : Value} {t0 dx : Addr} {m0 : Str → Option Value} {nl : List Str} (SF : StoreFacts B bmB "object.__setattr__" "object") (T : ExT K C bmB newId) (no : findIn K (.ref C) n = some none) (X : K.In hp)
    (hx : hp.get? x = some { HandSPX.excO C t0 with dict := some dx }) (hns : hp.Ns1 dx m0) (hw : Within m0 nl) (hz : nl.length ≤ 1000)
    (hq : ∀ h' tk', (∀ b o, b ≠ dx → hp.get? b = some o → h'.get? b = some o) → h'.Ns1 dx (fun y => if y = n then some v else m0 y) → R (.ok (.ret .none)) ⟨h', g, d, tk', os⟩) :
    codeAny (model prog w) A (.call (.builtin "object.__setattr__") ⟨[.ref x, .str n tk, v], []⟩) R ⟨hp, g, d, t, os⟩ := by
  obtain ⟨oD, _, _, hoD, hdD, _⟩ := hns.count hw
  refine osa_openX (s := ⟨hp, g, d, t, os⟩) (od := some oD) SF X ⟨hx, rfl, rfl, hoD⟩ T.over (no_taker no) fun b => ?_
  obtain ⟨cd, hc, hd'⟩ := any_some T.hd
  refine wpAny_bind (wpAny_pure (wpAny_bind (wpAny_bind (wpAny_loadPart hx (wpAny_bind ((looks_clsIn X hc).here ?_))))))
  rw [hd']
  refine wpAny_pure (a := some dx) ?_
  exact PX.store_in_old hns hw hz fun h' tk' ns sb => hq h' tk' (fun b o hb ho => by rw [sb.2 b hb]; exact ho) ns
end
end LL

set_option Elab.async false
set_option linter.all false
set_option maxRecDepth 100000
set_option maxHeartbeats 4000000
namespace LL
open PySem PySem.W PySem.Calls PyProof.Rows Builtin Builtin.ObjectAttr

/-- what making an error leaves -/
structure Made (h h' : Heap) (e C dx : Addr) (m : Str → Option Value) : Prop where
  keep : ∀ b o, h.get? b = some o → h'.get? b = some o
  big : h.objs.size ≤ e
  obj : ∃ t1, h'.get? e = some { HandSPX.excO C t1 with dict := some dx }
  dbig : h.objs.size ≤ dx
  ne : dx ≠ e
  ns : h'.Ns1 dx m

section
variable {prog : Program} {w : World} {A : Around} {E : Value → Shared → Prop} {R : Result → Shared → Prop} {s : Shared} {K : Frag} {C x fI : Addr} {B newId initId : String} {bmB : List Value} {n n2 : Str} {qual : Str} {st : Stmt} {fd : FuncData}

theorem ld {M : Model} {s : Shared} {name : Str} {scope : Scope} {L a : Addr} {cd : Value} {m : Str → Option Value} {y : Str} {pos : Pos} {v : Value} {Q : Value → Shared → Prop} {A : Around} {E : Value → Shared → Prop} (hn : s.heap.Ns L m) (hv : m y = some v) (h : Q v s)
    (hk : scope.kind = .function) (hl : scope.names.lookup y = some .local) (hd : (y == ("__debug__" : Str)) = false) :
    wpAny M A (eval (.Name y pos) (envOfC name scope L a cd)) Q E s := wpAny_Name (wpAny_loadName_local hk hl hn hv h) hd

theorem ns_keep {h h' : Heap} {a : Addr} {m : Str → Option Value} (y : h.Ns a m) (k : ∀ o, h.get? a = some o → h'.get? a = some o) : h'.Ns a m := by
  obtain ⟨o, es, ep, e, r⟩ := y
  exact ⟨o, es, ep, k o e, r⟩

theorem init1 (SF : StoreFacts B bmB "object.__setattr__" "object") (T : ExT K C bmB newId) (no : findIn K (.ref C) n = some none)
    (F : L2.Fun K "__init__" qual st fI fd) (Sc : L2.FnScope ["self", n] ["self", n] (L2.defScope st)) (bd : L2.Binds K fd ["self", n] [])
    (l1 : (L2.defScope st).names.lookup ("self" : Str) = some .local) (l2 : (L2.defScope st).names.lookup n = some .local) (nd : (n == ("__debug__" : Str)) = false)
    {q1 q2 q3 q4 : Pos} (hb : L2.defBody st = [.Assign [.Attribute (.Name "self" q1) n q2] (.Name n q3) q4])
    {t0 : Addr} {v : Value} (X : K.In s.heap) (lim : s.heap.NoLimit) (hx : s.heap.get? x = some (HandSPX.excO C t0)) (room : A.depth < recursionLimit)
    (hq : ∀ h' tk dx, (∀ b o, b ≠ x → s.heap.get? b = some o → h'.get? b = some o) → h'.get? x = some { HandSPX.excO C t0 with dict := some dx } → s.heap.objs.size ≤ dx → dx ≠ x →
      h'.Ns1 dx (fun y => if y = n then some v else none) → R (.ok (.ret .none)) { s with heap := h', toks := tk }) :
    codeAny (model prog w) A (.call (.ref fI) ⟨[.ref x, v], []⟩) R s := by
  obtain ⟨oc, od, kV, doc, pm, an, cdv, ct, osl, rfl, lk, hcd⟩ := F.ex
  refine codeAny_call_function room (X _ _ lk) rfl Sc.co Sc.gen rfl (codeRec_of X hcd)
    (bd s [.ref x, v] X rfl _ _ _ _ (wpAny_newFunctionEnv_cells Sc.kind ?par ?walk))
  case par =>
    rintro ⟨m, u⟩ hy
    cases Sc.par m (List.of_mem_zip hy).1 with
    | inl q => exact .inl q
    | inr q => exact .inr ⟨q, cellsFrom_some _ _ _ (.inl q)⟩
  case walk =>
    intro env he s1 ic
    subst he
    obtain ⟨h1, tk1, rfl, k⟩ := ic.done
    refine ⟨lim.keeps k, codeAny_func ?_⟩
    have ns := ic.toInCall.ns
    have hx1 := k _ _ hx
    rw [hb]
    refine wpAny_execs_cons (plainObj_wpAny_Assign_Attribute ?_)
    refine ld (v := v) ns (L2.bindL_get Sc.nd (i := 1) rfl rfl l2) ?_ Sc.kind l2 nd
    refine ld (v := .ref x) ns (L2.bindL_get Sc.nd (i := 0) rfl rfl l1) ?_ Sc.kind l1 (by decide)
    refine set_plain (X.keeps k) (ox := HandSPX.excO C t0) (od := none) ⟨hx1, rfl, rfl, trivial⟩ T.sa ?_
    refine put_first SF T no (X.keeps k) hx1 ?_
    intro h3 tk3 dx k3 dn dne hx3 hn3
    have z : s.heap.objs.size < h1.objs.size := ns.lt
    exact wpAny_execs_nil (hq h3 tk3 dx (fun b o hb' e => k3 b o hb' (k b o e)) hx3 (Nat.le_of_lt (Nat.lt_of_lt_of_le z dn)) dne hn3)

theorem init2 (SF : StoreFacts B bmB "object.__setattr__" "object") (T : ExT K C bmB newId) (no : findIn K (.ref C) n = some none) (no2 : findIn K (.ref C) n2 = some none)
    (F : L2.Fun K "__init__" qual st fI fd) (Sc : L2.FnScope ["self", n, n2] ["self", n, n2] (L2.defScope st)) (bd : L2.Binds K fd ["self", n, n2] [])
    (l1 : (L2.defScope st).names.lookup ("self" : Str) = some .local) (l2 : (L2.defScope st).names.lookup n = some .local) (l3 : (L2.defScope st).names.lookup n2 = some .local)
    (nd : (n == ("__debug__" : Str)) = false) (nd2 : (n2 == ("__debug__" : Str)) = false)
    {q1 q2 q3 q4 q5 q6 q7 q8 : Pos} (hb : L2.defBody st = [.Assign [.Attribute (.Name "self" q1) n q2] (.Name n q3) q4, .Assign [.Attribute (.Name "self" q5) n2 q6] (.Name n2 q7) q8])
    {t0 : Addr} {v v2 : Value} (X : K.In s.heap) (lim : s.heap.NoLimit) (hx : s.heap.get? x = some (HandSPX.excO C t0)) (hnx : K.lookup x = none) (room : A.depth < recursionLimit)
    (hq : ∀ h' tk dx, (∀ b o, b ≠ x → s.heap.get? b = some o → h'.get? b = some o) → h'.get? x = some { HandSPX.excO C t0 with dict := some dx } → s.heap.objs.size ≤ dx → dx ≠ x →
      h'.Ns1 dx (fun y => if y = n2 then some v2 else if y = n then some v else none) → R (.ok (.ret .none)) { s with heap := h', toks := tk }) :
    codeAny (model prog w) A (.call (.ref fI) ⟨[.ref x, v, v2], []⟩) R s := by
  obtain ⟨oc, od, kV, doc, pm, an, cdv, ct, osl, rfl, lk, hcd⟩ := F.ex
  refine codeAny_call_function room (X _ _ lk) rfl Sc.co Sc.gen rfl (codeRec_of X hcd)
    (bd s [.ref x, v, v2] X rfl _ _ _ _ (wpAny_newFunctionEnv_cells Sc.kind ?par ?walk))
  case par =>
    rintro ⟨m, u⟩ hy
    cases Sc.par m (List.of_mem_zip hy).1 with
    | inl q => exact .inl q
    | inr q => exact .inr ⟨q, cellsFrom_some _ _ _ (.inl q)⟩
  case walk =>
    intro env he s1 ic
    subst he
    obtain ⟨h1, tk1, rfl, k⟩ := ic.done
    refine ⟨lim.keeps k, codeAny_func ?_⟩
    have ns := ic.toInCall.ns
    have hx1 := k _ _ hx
    have ltx : x < s.heap.objs.size := Heap.lt_size hx
    have z : s.heap.objs.size < h1.objs.size := ns.lt
    rw [hb]
    refine wpAny_execs_cons (plainObj_wpAny_Assign_Attribute ?_)
    refine ld (v := v) ns (L2.bindL_get Sc.nd (i := 1) rfl rfl l2) ?_ Sc.kind l2 nd
    refine ld (v := .ref x) ns (L2.bindL_get Sc.nd (i := 0) rfl rfl l1) ?_ Sc.kind l1 (by decide)
    refine set_plain (X.keeps k) (ox := HandSPX.excO C t0) (od := none) ⟨hx1, rfl, rfl, trivial⟩ T.sa ?_
    refine put_first SF T no (X.keeps k) hx1 ?_
    intro h3 tk3 dx k3 dn dne hx3 hn3
    have X3 : K.In h3 := fun a o e => k3 a o (fun y => by rw [y, hnx] at e; cases e) (X.keeps k a o e)
    have ns3 := ns_keep ns fun o e => k3 _ o (Nat.ne_of_gt ltx) e
    refine wpAny_execs_cons (plainObj_wpAny_Assign_Attribute ?_)
    refine ld (v := v2) ns3 (L2.bindL_get Sc.nd (i := 2) rfl rfl l3) ?_ Sc.kind l3 nd2
    refine ld (v := .ref x) ns3 (L2.bindL_get Sc.nd (i := 0) rfl rfl l1) ?_ Sc.kind l1 (by decide)
    have hw := Within.cons n v Within.nil
    obtain ⟨oD, _, _, hoD, _, _⟩ := hn3.count hw
    refine set_plain X3 (ox := { HandSPX.excO C t0 with dict := some dx }) (od := some oD) ⟨hx3, rfl, rfl, hoD⟩ T.sa ?_
    refine put_next SF T no2 X3 hx3 hn3 hw (by simp) ?_
    intro h4 tk4 k4 hn4
    have dnx : ∀ b o, s.heap.get? b = some o → b ≠ dx := fun b o e => Nat.ne_of_lt (Nat.lt_of_lt_of_le (Heap.lt_size (k b o e)) dn)
    exact wpAny_execs_nil (hq h4 tk4 dx (fun b o hb' e => k4 b o (dnx b o e) (k3 b o hb' (k b o e))) (k4 x _ dne.symm hx3) (Nat.le_of_lt (Nat.lt_of_lt_of_le z dn)) dne hn4)

/-- C(v), C(v, v2) -/
theorem made1 (SF : StoreFacts B bmB "object.__setattr__" "object") (FB : ExcBaseFacts B newId initId bmB) (T : ExT K C bmB newId) (no : findIn K (.ref C) n = some none) (iC : findIn K (.ref C) "__init__" = some (some (.ref fI))) (tI : typeIn K (.ref fI) = some (.type "function"))
    (F : L2.Fun K "__init__" qual st fI fd) (Sc : L2.FnScope ["self", n] ["self", n] (L2.defScope st)) (bd : L2.Binds K fd ["self", n] [])
    (l1 : (L2.defScope st).names.lookup ("self" : Str) = some .local) (l2 : (L2.defScope st).names.lookup n = some .local) (nd : (n == ("__debug__" : Str)) = false)
    {q1 q2 q3 q4 : Pos} (hb : L2.defBody st = [.Assign [.Attribute (.Name "self" q1) n q2] (.Name n q3) q4])
    {v : Value} (X : K.In s.heap) (lim : s.heap.NoLimit) (room : A.depth + 1 < recursionLimit)
    (hq : ∀ h' tk e dx, Made s.heap h' e C dx (fun y => if y = n then some v else none) → R (.ok (.ret (.ref e))) { s with heap := h', toks := tk }) :
    codeAny (model prog w) A (.call (.ref C) ⟨[v], []⟩) R s := by
  obtain ⟨nm, N, qn, bs, bm, hdct, sn, sub, ab, col, dd, k0, k1, k2, k3, k5, hC, hT⟩ := excInit_of X T.own
  obtain ⟨hp, g, dr, tk, os⟩ := s
  have kp : ∀ b o, hp.get? b = some o → ((hp.push (kdv_tup [v])).push (HandSPX.excO C hp.objs.size)).get? b = some o := fun b o e => Heap.get?_push_of_some _ (Heap.get?_push_of_some _ e)
  refine HandSPX.call_own FB hT hC (looks_findIn X iC) (fun self => bind_fn X self tI) (by show 1 ≤ sizeLine; decide) ?_
  refine init1 (s := ⟨(hp.push (kdv_tup [v])).push (HandSPX.excO C hp.objs.size), g, dr, tk, os⟩) SF T no F Sc bd l1 l2 nd hb (X.keeps kp) (lim.keeps kp) (by heap_get) (by rw [L2.make_depth]; exact room) ?_
  intro h' tk' dx k' hx dn dne ns
  have z : hp.objs.size + 1 + 1 ≤ dx := by simpa only [Heap.size_push] using dn
  refine ⟨rfl, hq h' tk' (hp.objs.size + 1) dx ⟨fun b o e => k' b o (Nat.ne_of_lt (Nat.lt_succ_of_lt (Heap.lt_size e))) (kp b o e), Nat.le_succ _, ⟨_, hx⟩, by show hp.objs.size ≤ dx; omega, dne, ns⟩⟩
theorem made2 (SF : StoreFacts B bmB "object.__setattr__" "object") (FB : ExcBaseFacts B newId initId bmB) (T : ExT K C bmB newId) (no : findIn K (.ref C) n = some none) (no2 : findIn K (.ref C) n2 = some none) (iC : findIn K (.ref C) "__init__" = some (some (.ref fI))) (tI : typeIn K (.ref fI) = some (.type "function"))
    (F : L2.Fun K "__init__" qual st fI fd) (Sc : L2.FnScope ["self", n, n2] ["self", n, n2] (L2.defScope st)) (bd : L2.Binds K fd ["self", n, n2] [])
    (l1 : (L2.defScope st).names.lookup ("self" : Str) = some .local) (l2 : (L2.defScope st).names.lookup n = some .local) (l3 : (L2.defScope st).names.lookup n2 = some .local)
    (nd : (n == ("__debug__" : Str)) = false) (nd2 : (n2 == ("__debug__" : Str)) = false)
    {q1 q2 q3 q4 q5 q6 q7 q8 : Pos} (hb : L2.defBody st = [.Assign [.Attribute (.Name "self" q1) n q2] (.Name n q3) q4, .Assign [.Attribute (.Name "self" q5) n2 q6] (.Name n2 q7) q8])
    {v v2 : Value} (X : K.In s.heap) (lim : s.heap.NoLimit) (room : A.depth + 1 < recursionLimit)
    (hq : ∀ h' tk e dx, Made s.heap h' e C dx (fun y => if y = n2 then some v2 else if y = n then some v else none) → R (.ok (.ret (.ref e))) { s with heap := h', toks := tk }) :
    codeAny (model prog w) A (.call (.ref C) ⟨[v, v2], []⟩) R s := by
  obtain ⟨nm, N, qn, bs, bm, hdct, sn, sub, ab, col, dd, k0, k1, k2, k3, k5, hC, hT⟩ := excInit_of X T.own
  obtain ⟨hp, g, dr, tk, os⟩ := s
  have kp : ∀ b o, hp.get? b = some o → ((hp.push (kdv_tup [v, v2])).push (HandSPX.excO C hp.objs.size)).get? b = some o := fun b o e => Heap.get?_push_of_some _ (Heap.get?_push_of_some _ e)
  have hnx : K.lookup (hp.objs.size + 1) = none := by
    cases e : K.lookup (hp.objs.size + 1) with
    | none => rfl
    | some o => exact absurd (Heap.lt_size (X _ _ e)) (by show ¬ hp.objs.size + 1 < hp.objs.size; omega)
  refine HandSPX.call_own FB hT hC (looks_findIn X iC) (fun self => bind_fn X self tI) (by show 2 ≤ sizeLine; decide) ?_
  refine init2 (s := ⟨(hp.push (kdv_tup [v, v2])).push (HandSPX.excO C hp.objs.size), g, dr, tk, os⟩) SF T no no2 F Sc bd l1 l2 l3 nd nd2 hb (X.keeps kp) (lim.keeps kp) (by heap_get) hnx (by rw [L2.make_depth]; exact room) ?_
  intro h' tk' dx k' hx dn dne ns
  have z : hp.objs.size + 1 + 1 ≤ dx := by simpa only [Heap.size_push] using dn
  refine ⟨rfl, hq h' tk' (hp.objs.size + 1) dx ⟨fun b o e => k' b o (Nat.ne_of_lt (Nat.lt_succ_of_lt (Heap.lt_size e))) (kp b o e), Nat.le_succ _, ⟨_, hx⟩, by show hp.objs.size ≤ dx; omega, dne, ns⟩⟩
end
end LL

set_option Elab.async false
set_option linter.all false
set_option maxRecDepth 100000
set_option maxHeartbeats 4000000
namespace LL
open PySem PySem.Spec PyProof.Rows L2

/-- an error at e, its dict at dx with the fields fs -/
def putE (H : Hp) (e dx C : Addr) (fs : List (Str × V)) : Hp := upd (upd H dx (exd dx fs)) e (exo e C (some dx))

section
variable {X : Cx} {pins : List (Addr × Obj)} {σ : L2.St} {H : Hp}
theorem inv_made {h h' : Heap} {g : Array GenState} {d : Drawn} {t t' : Nat} {os : OsState} {e dx C : Addr} {m : Str → Option Value} {fs : List (Str × V)} (I : Inv X pins σ H ⟨h, g, d, t, os⟩)
    (M : Made h h' e C dx m) (r : ∀ f, RelO (fs.lookup f) (m f)) : Inv X pins σ (putE H e dx C fs) ⟨h', g, d, t', os⟩ ∧ H e = none ∧ H dx = none := by
  have ne : H e = none := I.hok.fresh M.big
  have nd : H dx = none := I.hok.fresh M.dbig
  have old : ∀ {b o}, h.get? b = some o → b ≠ e ∧ b ≠ dx := fun {b o} q =>
    ⟨Nat.ne_of_lt (Nat.lt_of_lt_of_le (Heap.lt_size q) M.big), Nat.ne_of_lt (Nat.lt_of_lt_of_le (Heap.lt_size q) M.dbig)⟩
  have lift : ∀ b o, H b = some o → putE H e dx C fs b = some o := fun b o q => by
    unfold putE
    rw [upd_ne (ne_of_none q ne), upd_ne (ne_of_none q nd)]
    exact q
  have U : Un X.fs [] H (putE H e dx C fs) h h' := {
    keep := fun b o q _ _ _ => M.keep b o q
    slot := fun b o q _ _ _ => ⟨o.slots, M.keep b o q⟩
    free := fun b o q n _ => by unfold putE; rw [upd_ne (old q).1, upd_ne (old q).2]; exact n
    there := fun b o q _ => ⟨o, M.keep b o q⟩
    tups := fun b xs q => lift b _ q
    frzs := fun b o u q => lift b _ q
    tbls := fun b ps q => ⟨#[], by rw [lift b _ q]; simp⟩ }
  refine ⟨I.un (h' := h') (t' := t') U fun b o q => ?_, ne, nd⟩
  by_cases be : b = e
  · subst be
    unfold putE at q
    rw [upd_same] at q
    cases q
    obtain ⟨t1, ho⟩ := M.obj
    exact exo_ok ho
  · by_cases bd : b = dx
    · subst bd
      unfold putE at q
      rw [upd_ne be, upd_same] at q
      cases q
      exact exd_ok M.ns r
    · have q' : H b = some o := by
        unfold putE at q
        rw [upd_ne be, upd_ne bd] at q
        exact q
      exact (I.hok b o q').stay (fun c u _ z => M.keep c u z) (fun c z => lift c _ z) fun c xs z => lift c _ z
end

/-- what is wanted of an error class of one field, of two fields, without __init__ -/
structure Er1 (K : PySem.W.Frag) (mg : Str → Option Value) (x n : Str) (C : Addr) : Prop where
  gC : mg x = some (.ref C)
  no : PySem.W.findIn K (.ref C) n = some none
  kp : PySem.W.keepIn K (.ref C) = true
  run : ∀ {prog : Program} {w : World} {A : Around} {R : Result → Shared → Prop} {s : Shared} {v : Value}, K.In s.heap → s.heap.NoLimit → A.depth + 1 < recursionLimit →
    (∀ h' tk e dx, Made s.heap h' e C dx (fun y => if y = n then some v else none) → R (.ok (.ret (.ref e))) { s with heap := h', toks := tk }) →
    codeAny (model prog w) A (.call (.ref C) ⟨[v], []⟩) R s
structure Er2 (K : PySem.W.Frag) (mg : Str → Option Value) (x n n2 : Str) (C : Addr) : Prop where
  gC : mg x = some (.ref C)
  no : PySem.W.findIn K (.ref C) n = some none
  no2 : PySem.W.findIn K (.ref C) n2 = some none
  kp : PySem.W.keepIn K (.ref C) = true
  run : ∀ {prog : Program} {w : World} {A : Around} {R : Result → Shared → Prop} {s : Shared} {v v2 : Value}, K.In s.heap → s.heap.NoLimit → A.depth + 1 < recursionLimit →
    (∀ h' tk e dx, Made s.heap h' e C dx (fun y => if y = n2 then some v2 else if y = n then some v else none) → R (.ok (.ret (.ref e))) { s with heap := h', toks := tk }) →
    codeAny (model prog w) A (.call (.ref C) ⟨[v, v2], []⟩) R s
structure Er0 (K : PySem.W.Frag) (mg : Str → Option Value) (x : Str) (C : Addr) (newId initId : String) (bmB : List Value) : Prop where
  gC : mg x = some (.ref C)
  kp : PySem.W.keepIn K (.ref C) = true
  own : PySem.W.excInitIn K C bmB newId = true
  ini : PySem.W.findIn K (.ref C) "__init__" = some (some (.builtin initId))
/-- for e.f and isinstance(e, ..) -/
structure ErC (K : PySem.W.Frag) (C : Addr) : Prop where
  hd : PySem.W.hasDictIn K C = true
  ga : PySem.W.findIn K (.ref C) "__getattribute__" = some (some (.builtin "BaseException.__getattribute__"))
  gg : PySem.W.findIn K (.ref C) "__getattr__" = some none
  sub : PySem.W.subIn K (.ref C) (.type "BaseException") = some true
  cl : PySem.W.findIn K (.ref C) "__class__" = some (some (.builtin "object.__class__"))
  mr : PySem.W.mroIn K C (.type "object") = some true
structure ClG (K : PySem.W.Frag) : Prop where
  sp : PySem.W.specialIn K (.builtin "object.__class__") "__get__" = some (some (.builtin "getset_descriptor.__get__"))
  tk : PySem.W.takesIn K (.builtin "object.__class__") = some true

def tMk1 (C : Addr) (n : Str) (ta : TA) : TE := fun σ H Q => ta σ H fun vs H1 => ∃ v, vs = [v] ∧ ∀ e dx, H1 e = none → H1 dx = none → dx ≠ e → Q (.ref e) (putE H1 e dx C [(n, v)])
def tMk2 (C : Addr) (n n2 : Str) (ta : TA) : TE := fun σ H Q => ta σ H fun vs H1 => ∃ v v2, vs = [v, v2] ∧ ∀ e dx, H1 e = none → H1 dx = none → dx ≠ e → Q (.ref e) (putE H1 e dx C [(n2, v2), (n, v)])
def tMk0 (C : Addr) : TE := fun σ H Q => ∀ e, H e = none → Q (.ref e) (upd H e (exo e C none))
section
variable {X : Cx} {C : Addr} {x n n2 : Str} {e : Expr} {es : List Expr} {ta : TA} {p pos : Pos} {k : Nat}
theorem pe_mk1 (T : Er1 X.K X.mg x n C) (hr : Room k X.A) (ha : PA X [e] ta) (hg : Gl X x := by rfl) (hdb : (x == ("__debug__" : Str)) = false := by decide)
    (he : starEach [e] X.env = (false, eval e X.env) :: starEach [] X.env := by rfl) (hpl : (backTo pos (starEach [] X.env)).any (·.1) = false := by rfl) :
    PE X (.Call (.Name x p) [e] [] pos) (tMk1 C n ta) := by
  refine ⟨fun pins s σ H Q I h => wpAny_Call_Name_kw (ld_glob I hg T.gC ?_ hdb)⟩
  refine PySem.W.callWith_K (h₀ := X.base) I.ok.mod.kin T.kp (thn (ha.run pos pins s σ H _ I h) ?_) he hpl
  rintro us s1 ⟨vs, H1, I1, r1, v, rfl, q⟩
  obtain ⟨u, rfl, ru⟩ := vals1 r1
  refine ⟨I1.kIn, wpAny_call (T.run I1.kIn I1.nolimit (by have := hr.dp; omega) ?_)⟩
  intro h' tk a dx M
  obtain ⟨hp, g, d, t, os⟩ := s1
  obtain ⟨J, ne, nd⟩ := inv_made (t' := tk) (fs := [(n, v)]) I1 M (relO_put (fs := []) (mA := fun _ => none) ru fun f => True.intro)
  exact ⟨.ref a, _, J, rfl, q a dx ne nd M.ne⟩
theorem pe_mk2 {e2 : Expr} (T : Er2 X.K X.mg x n n2 C) (hr : Room k X.A) (ha : PA X [e, e2] ta) (hg : Gl X x := by rfl) (hdb : (x == ("__debug__" : Str)) = false := by decide)
    (he : starEach [e, e2] X.env = (false, eval e X.env) :: starEach [e2] X.env := by rfl) (hpl : (backTo pos (starEach [e2] X.env)).any (·.1) = false := by rfl) :
    PE X (.Call (.Name x p) [e, e2] [] pos) (tMk2 C n n2 ta) := by
  refine ⟨fun pins s σ H Q I h => wpAny_Call_Name_kw (ld_glob I hg T.gC ?_ hdb)⟩
  refine PySem.W.callWith_K (h₀ := X.base) I.ok.mod.kin T.kp (thn (ha.run pos pins s σ H _ I h) ?_) he hpl
  rintro us s1 ⟨vs, H1, I1, r1, v, v2, rfl, q⟩
  obtain ⟨u, u2, rfl, ru, ru2⟩ := vals2 r1
  refine ⟨I1.kIn, wpAny_call (T.run I1.kIn I1.nolimit (by have := hr.dp; omega) ?_)⟩
  intro h' tk a dx M
  obtain ⟨hp, g, d, t, os⟩ := s1
  obtain ⟨J, ne, nd⟩ := inv_made (t' := tk) (fs := [(n2, v2), (n, v)]) I1 M (relO_put ru2 (relO_put (fs := []) (mA := fun _ => none) ru fun f => True.intro))
  exact ⟨.ref a, _, J, rfl, q a dx ne nd M.ne⟩
theorem pe_mk0 {B newId initId : String} {bmB : List Value} (FB : ExcBaseFacts B newId initId bmB) (T : Er0 X.K X.mg x C newId initId bmB) (hg : Gl X x := by rfl) (hdb : (x == ("__debug__" : Str)) = false := by decide) :
    PE X (.Call (.Name x p) [] [] pos) (tMk0 C) := by
  refine ⟨fun pins s σ H Q I h => wpAny_Call_Name_kw (ld_glob I hg T.gC ?_ hdb)⟩
  refine PySem.W.callWith_K0 I.kIn T.kp ?_
  obtain ⟨nm, N, qn, bs, bm, hdct, sn, sub, ab, col, dd, k0, k1, k2, k3, k5, hC, hT⟩ := PySem.W.excInit_of I.kIn T.own
  have ini := PySem.W.looks_findIn (M := model X.prog X.w) I.kIn T.ini
  obtain ⟨hp, g, d, t, os⟩ := s
  refine PySem.W.call_B FB hT hC ini (by show 0 ≤ sizeLine; exact Nat.zero_le _) ?_
  intro h' k he ht
  have sz : hp.objs.size ≤ hp.objs.size + 1 := Nat.le_succ _
  exact ⟨.ref (hp.objs.size + 1), upd H (hp.objs.size + 1) (exo (hp.objs.size + 1) C none), I.laid (t' := t) k sz (exo_ok he), rfl, h _ (I.hok.fresh sz)⟩

/-- e.n -/
def tFl (K : PySem.W.Frag) (n : Str) (te : TE) : TE := fun σ H Q => te σ H fun x H1 => ∃ (a C dx : Addr) (fs : List (Str × V)) (v : V), x = .ref a ∧ ErC K C ∧ PySem.W.findIn K (.ref C) n = some none ∧ H1 a = some (exo a C (some dx)) ∧ H1 dx = some (exd dx fs) ∧ fs.lookup n = some v ∧ Q v H1
theorem pe_fl {te : TE} (h : PE X e te) (hb : attributeBase e n X.env (eval e X.env) = eval e X.env := by rfl) : PE X (.Attribute e n pos) (tFl X.K n te) := by
  refine ⟨fun pins s σ H Q I q => attr_of hb (thn (h.run pins s σ H _ I q) ?_)⟩
  rintro u s1 ⟨y, H1, I1, rx, a, C, dx, fs, v, rfl, T, no, ha, hx, l, q⟩
  cases rx
  obtain ⟨t1, ho⟩ := exo_at I1.hok ha
  obtain ⟨mA, hns, hr⟩ := exd_at I1.hok hx
  obtain ⟨od, hod, hl⟩ := lookIn_ns hns
  obtain ⟨u, hu, ru⟩ := RelO.some_of (v := v) (o := mA n) (by rw [← l]; exact hr n)
  exact HandSPX.exc_get I1.kIn ⟨ho, rfl, rfl, hod⟩ T.ga T.gg T.sub (PySem.W.findObj_own T.hd no rfl (by rw [hl, hu])) (handed_of ru) ⟨v, H1, I1.tok _, ru, q⟩

/-- isinstance(e, c) -/
def rIsX (K : PySem.W.Frag) : List V → Hp → VK → Prop := fun xs H Q => ∃ (a C : Addr) (d : Option Addr) (c : V) (cv : Value) (b : Bool), xs = [.ref a, c] ∧ ClsV c cv ∧ ErC K C ∧ H a = some (exo a C d) ∧ (∀ dx, d = some dx → ∃ fs, H dx = some (exd dx fs)) ∧ PySem.W.kitOne K (.ref C) cv = some b ∧ Q (.bl b) H
theorem call_isX (G : ClG X.K) : CallR X (.builtin "isinstance") (rIsX X.K) := by
  intro pins s σ H xs us Q I r h
  obtain ⟨a, C, d, c, cv, b, rfl, kc, T, ha, hdx, e, q⟩ := h
  obtain ⟨u1, u2, rfl, r1, r2⟩ := vals2 r
  cases r1
  have ec := kc.eq r2
  subst ec
  obtain ⟨t1, ho⟩ := exo_at I.hok ha
  obtain ⟨cd, hc, _⟩ := PySem.W.any_some T.hd
  have hcl : (PySem.W.clsIn X.K C).isSome = true := by rw [hc]; rfl
  obtain ⟨od, J⟩ : ∃ od, PySem.W.InstAt s.heap a { cls := .ref C, dict := d, data := .fields #[.ref t1, .none, .none, .none, .bool false, .none] } C od := by
    cases d with
    | none => exact ⟨none, ho, rfl, rfl, trivial⟩
    | some dx =>
      obtain ⟨fs, hx⟩ := hdx dx rfl
      obtain ⟨mA, hns, hr⟩ := exd_at I.hok hx
      obtain ⟨od, hod, hl⟩ := lookIn_ns hns
      exact ⟨some od, ho, rfl, rfl, hod⟩
  exact PySem.W.kia_one (PySem.W.kitx_exc hcl T.ga T.gg T.sub T.cl G.sp G.tk T.mr) I.kIn J e (fun z => nomatch z) fun tk => ⟨.bl b, H, I.tok tk, rfl, q⟩
end
end LL

set_option Elab.async false
set_option linter.all false
set_option maxRecDepth 100000
set_option maxHeartbeats 4000000
namespace LL
open PySem PySem.Spec PyProof.Rows L2

section
variable {X : Cx}
/-- // by a number below 2 ^ 9000, below nought too -/
theorem op_fdivZ : OpR X (binaryOp .FloorDiv) (rI (fun _ j => j ≠ 0 ∧ j.natAbs.log2 < 9000) fun i j => .int (i.fdiv j)) := opI fun i j _ _ _ _ _ hc q => floordiv_int hc.1 q (.inl (PyProof.noPylong_of_log2 hc.2))
end

/-! ### kinds of data -/
def tyN : PyData → String
  | .none => "NoneType" | .bool _ => "bool" | .int _ => "int" | .str _ => "str" | .list _ => "list" | .tuple _ => "tuple" | .dict _ => "dict"
theorem Dq.ty {K : PySem.W.Frag} {H : Hp} {v : V} {d : PyData} (h : Dq K H v d) : TyX K H v (.type (tyN d)) := by
  cases h with
  | non => exact .base .non
  | bl b => exact .base (.bl b)
  | int i => exact .base (.int i)
  | str x => exact .base (.str x)
  | lst h r =>
    rcases h with (h | ⟨o, h⟩) | ⟨o, its, n, hk, hc, _⟩
    · exact .base (.lst h)
    · exact .base (.frz h)
    · exact .kList hk hc
  | tup h r =>
    rcases h with (h | ⟨o, h⟩) | ⟨o, its, n, hk, hc, _⟩
    · exact .base (.tup h)
    · exact .fTuple h
    · exact .kTuple hk hc
  | dct h r => exact .base (.dK h)
def isI : PyData → Bool
  | .int _ => true
  | _ => false
def isT : PyData → Bool
  | .tuple _ => true
  | _ => false
def isB : PyData → Bool
  | .bool _ => true
  | _ => false
def isIB : PyData → Bool
  | .int _ => true
  | .bool _ => true
  | _ => false
theorem kit_int : ∀ d : PyData, kitB (tyN d) "int" = some (isIB d)
  | .none => (by decide +kernel : kitB "NoneType" "int" = some false)
  | .bool _ => (by decide +kernel : kitB "bool" "int" = some true)
  | .int _ => (by decide +kernel : kitB "int" "int" = some true)
  | .str _ => (by decide +kernel : kitB "str" "int" = some false)
  | .list _ => (by decide +kernel : kitB "list" "int" = some false)
  | .tuple _ => (by decide +kernel : kitB "tuple" "int" = some false)
  | .dict _ => (by decide +kernel : kitB "dict" "int" = some false)
theorem kit_bool : ∀ d : PyData, kitB (tyN d) "bool" = some (isB d)
  | .none => (by decide +kernel : kitB "NoneType" "bool" = some false)
  | .bool _ => (by decide +kernel : kitB "bool" "bool" = some true)
  | .int _ => (by decide +kernel : kitB "int" "bool" = some false)
  | .str _ => (by decide +kernel : kitB "str" "bool" = some false)
  | .list _ => (by decide +kernel : kitB "list" "bool" = some false)
  | .tuple _ => (by decide +kernel : kitB "tuple" "bool" = some false)
  | .dict _ => (by decide +kernel : kitB "dict" "bool" = some false)
theorem kit_tuple : ∀ d : PyData, kitB (tyN d) "tuple" = some (isT d)
  | .none => (by decide +kernel : kitB "NoneType" "tuple" = some false)
  | .bool _ => (by decide +kernel : kitB "bool" "tuple" = some false)
  | .int _ => (by decide +kernel : kitB "int" "tuple" = some false)
  | .str _ => (by decide +kernel : kitB "str" "tuple" = some false)
  | .list _ => (by decide +kernel : kitB "list" "tuple" = some false)
  | .tuple _ => (by decide +kernel : kitB "tuple" "tuple" = some true)
  | .dict _ => (by decide +kernel : kitB "dict" "tuple" = some false)
/-- isinstance(x, T) of data, x in slot i, T a built-in class -/
def tIsD (K : PySem.W.Frag) (T : String) (i : Nat) : TE := fun σ H Q => ∃ v, σ[i]? = some (some v) ∧ ∃ d b, Dq K H v d ∧ kitB (tyN d) T = some b ∧ Q (.bl b) H
theorem is_dat {X : Cx} {e : Expr} {i : Nat} {x : Str} {T : String} {p p2 pos : Pos} (mi : X.mg "isinstance" = none) (h : PE X e (tVar i)) (mT : X.mg x = none) (bT : bootBuiltins x = some (.type T)) (hgT : Gl X x := by rfl) (hn : x ≠ "__name__" := by decide) (hd : (x == ("__debug__" : Str)) = false := by decide) (hg : Gl X "isinstance" := by rfl)
    (he : starEach [e, .Name x p2] X.env = (false, eval e X.env) :: starEach [.Name x p2] X.env := by rfl) (he2 : starEach [.Name x p2] X.env = (false, eval (.Name x p2) X.env) :: starEach [] X.env := by rfl) (hpl : (backTo pos (starEach [.Name x p2] X.env)).any (·.1) = false := by rfl) :
    PE X (.Call (.Name "isinstance" p) [e, .Name x p2] [] pos) (tIsD X.K T i) :=
  imp (pe_callB (pos := pos) (p := p) call_isi hg mi (by decide +kernel) (pa_cons h (pa_cons (pe_bltn (v := .ty T) hgT mT bT rfl hn hd) pa_nil he2) he) (by decide) (by decide) he hpl)
    fun σ H Q ⟨v, e1, d, b, hd, hb, q⟩ => ⟨v, e1, v, .ty T, _, _, b, rfl, .ty T, hd.ty, kit_ty hb, q⟩

/-! ### raise C(e); the error in its suite; a call by keywords alone -/
section
variable {X : Cx} {C : Addr} {x n : Str} {a : Expr} {ta : TA} {p pos pos2 : Pos} {k : Nat}
def tMkX (C : Addr) (n : Str) (ta : TA) : L2.St → Hp → XK → Prop := fun σ H Q => ta σ H fun vs H1 => ∃ v, vs = [v] ∧ ∀ d, H1 d = none → Q (.ref C) (some d) (upd H1 d (.xd [(n, v)]))
theorem pmk_er1 (T : Er1 X.K X.mg x n C) (rs : Raises X (.ref C)) (hr : Room k X.A) (ha : PA X [a] ta) (hg : Gl X x := by rfl) (hdb : (x == ("__debug__" : Str)) = false := by decide)
    (he : starEach [a] X.env = (false, eval a X.env) :: starEach [] X.env := by rfl) (hpl : (backTo pos (starEach [] X.env)).any (·.1) = false := by rfl) :
    PMk X (.Call (.Name x p) [a] [] pos) (tMkX C n ta) := by
  intro pins s σ H Q I h
  refine wpAny_Call_Name_kw (ld_glob I hg T.gC ?_ hdb)
  refine PySem.W.callWith_K (h₀ := X.base) I.ok.mod.kin T.kp (thn (ha.run pos pins s σ H _ I h) ?_) he hpl
  rintro us s1 ⟨vs, H1, I1, r1, v, rfl, q⟩
  obtain ⟨u, rfl, ru⟩ := vals1 r1
  refine ⟨I1.kIn, wpAny_call (T.run I1.kIn I1.nolimit (by have := hr.dp; omega) ?_)⟩
  intro h' tk e d M
  obtain ⟨hp, g, dr, t, os⟩ := s1
  obtain ⟨t1, ho⟩ := M.obj
  obtain ⟨G, g1, g2⟩ := restrict h' fun b => decide (b ≠ e)
  have gk : ∀ b, b ≠ e → G.get? b = h'.get? b := fun b hb => g1 b (decide_eq_true hb)
  have ge : G.get? e = none := g2 e (by simp)
  have old : ∀ b o, hp.get? b = some o → G.get? b = some o := fun b o z => (gk b (Nat.ne_of_lt (Nat.lt_of_lt_of_le (Heap.lt_size z) M.big))).trans (M.keep b o z)
  have rel : ∀ f, RelO (List.lookup f [(n, v)]) (if f = n then some u else none) := relO_put (fs := []) (mA := fun _ => none) ru fun f => True.intro
  have ob : ObjOk X.prog X.w (upd H1 d (.xd [(n, v)])) G d (.xd [(n, v)]) := ⟨_, M.ns.at (fun o z => (gk d M.ne).trans z), rel⟩
  have J : Inv X pins σ (upd H1 d (.xd [(n, v)])) ⟨G, g, dr, tk, os⟩ := I1.laid (t' := tk) old M.dbig ob
  refine ⟨e, _, _, ⟨G, g, dr, tk, os⟩, _, .ref C, some d, rfl, J, ?_, ge, ho, ⟨rfl, rfl⟩, rfl, rfl, ?_, rfl, I1.bare, rs, q d (I1.hok.fresh M.dbig)⟩
  · intro b o z
    by_cases hb : b = e
    · have z' : G.get? b = some o := z
      rw [hb, ge] at z'
      cases z'
    · exact (gk b hb).symm.trans z
  · rw [upd_ne (Ne.symm M.ne)]
    exact I1.hok.fresh M.big
/-- isinstance(e, c), e the error that the suite holds, its dict at dd -/
def rIsS (K : PySem.W.Frag) (C a : Addr) (cls : Value) (d : Option Addr) : List V → Hp → VK → Prop := fun xs H Q => ∃ (c : V) (cv : Value) (b : Bool) (dd : Addr) (fs : List (Str × V)), xs = [.ref a, c] ∧ cls = .ref C ∧ ClsV c cv ∧ d = some dd ∧ H dd = some (.xd fs) ∧ PySem.W.kitOne K (.ref C) cv = some b ∧ Q (.bl b) H
theorem call_isS {a : Addr} {oe : Obj} {cls : Value} {d : Option Addr} {pn : List (Addr × Obj)} (T : ErC X.K C) (G : ClG X.K) (hz : Zc cls d oe) (hf : ∃ vs, oe.data = .fields vs) : CallR (X.suite a ((a, oe) :: pn)) (.builtin "isinstance") (rIsS X.K C a cls d) := by
  intro pins s σ H xs us Q I r h
  obtain ⟨c, cv, b, dd, fs, rfl, ec, kc, ed, hx, e, q⟩ := h
  subst ec ed
  obtain ⟨u1, u2, rfl, r1, r2⟩ := vals2 r
  cases r1
  have e2 := kc.eq r2
  subst e2
  obtain ⟨hget, _⟩ := I.pin (a, oe) (List.mem_append.mpr (.inl List.mem_cons_self))
  obtain ⟨vs, hv⟩ := hf
  obtain ⟨cd, hc, _⟩ := PySem.W.any_some T.hd
  have hcl : (PySem.W.clsIn X.K C).isSome = true := by rw [hc]; rfl
  obtain ⟨mA, hns, _⟩ := (show ObjOk X.prog X.w H s.heap dd (.xd fs) from I.hok dd _ hx)
  obtain ⟨od, hod, _⟩ := lookIn_ns hns
  have J : PySem.W.InstAt s.heap a oe C (some od) := ⟨hget, hz.1, by unfold PySem.W.notCls; rw [hv] <;> rfl, by rw [hz.2]; exact hod⟩
  exact PySem.W.kia_one (PySem.W.kitx_exc hcl T.ga T.gg T.sub T.cl G.sp G.tk T.mr) I.kIn J e (fun z => nomatch z) fun tk => ⟨.bl b, H, I.kept (t' := tk) fun _ _ z => z, rfl, q⟩
end
section
variable {X : Cx} {CX : CXT} {k : Nat} {f : Addr} {fd : FuncData} {ps ks : List Str} {sp : Sp} {E : L2.St → XK} {x : Str} {p pos : Pos} {kws : List Keyword} {tk : TA}
/-- f(k = e, ..) of what may raise; gV: the values in the parameters' order -/
def tCallKS (sp : Sp) (gV : List V → List V) (E : L2.St → XK) (m : Nat) (tk : TA) : TE := fun σ H Q => tk σ H fun zs H1 => zs.length = m ∧ sp (gV zs) H1 Q (E σ)
theorem pe_callKS {g : List Value → List Value} {gV : List V → List V} (F : FnOk X.prog X.w X.K X.mg X.base CX k f fd ps sp) (hr : Room k X.A) (hg : Gl X x) (hm : X.mg x = some (.ref f)) (hk : PySem.W.keepIn X.K (.ref f) = true)
    (bd : ∀ (s : Shared) (ws : List Value), X.K.In s.heap → ws.length = ks.length → BindsTo s fd ⟨[], ks.zip ws⟩ (ps.zip (g ws))) (rel : ∀ {zs : List V} {ws : List Value}, Vals zs ws → Vals (gV zs) (g ws)) (hx : ∀ σ, PassesAt CX X σ (E σ))
    (hkw : PK X kws tk) (hall : (backToKw pos (keywordEach kws X.env)).all (·.1.isSome) = true := by rfl) (hks : (backToKw pos (keywordEach kws X.env)).filterMap (·.1) = ks := by rfl)
    (hdb : (x == ("__debug__" : Str)) = false := by decide) (hpl : ((backTo pos (starEach [] X.env)).any (·.1) || (backToKw pos (keywordEach kws X.env)).any (·.1.isNone)) = false := by rfl) :
    PE X (.Call (.Name x p) [] kws pos) (tCallKS sp gV E ks.length tk) := by
  refine ⟨fun pins s σ H Q I h => wpAny_Call_Name_kw (ld_glob I hg hm ?_ hdb)⟩
  refine PySem.W.callWith_KW0 (h₀ := X.base) I.ok.mod.kin hk hall (thn (hkw.run pos pins s σ H _ I h) ?_) hpl
  rintro ws s1 ⟨zs, H1, I1, rz, lz, q⟩
  refine ⟨I1.kIn, ?_⟩
  rw [hks]
  have lw : ws.length = ks.length := by rw [← rz.length]; exact lz
  refine wpAny_call (codeAny_mono (F.run X.A X.stack s1 H1 ⟨[], ks.zip ws⟩ (g ws) (gV zs) Q (E σ) hr I1.env0 (bd s1 ws I1.kIn lw) (rel rz) q) ?_)
  intro r s' hq
  match r, hq with
  | .error e, hq => exact hx σ pins H1 s1 e s' I1 hq
  | .ok (.ret u), hq => exact I1.after hq
  | .ok .next, hq => exact False.elim hq
  | .ok .brk, hq => exact False.elim hq
  | .ok .cont, hq => exact False.elim hq
end
end LL

set_option Elab.async false
set_option linter.all false
set_option maxRecDepth 100000
set_option maxHeartbeats 4000000
namespace LL
open PySem PySem.W PyProof.Rows
abbrev ndict : Option (Option Value) := some (some (.builtin "object.__setattr__"))
def ercB (K : Frag) (C : Addr) : Bool := hasDictIn K C && (decide (findIn K (.ref C) "__getattribute__" = some (some (.builtin "BaseException.__getattribute__"))) && (decide (findIn K (.ref C) "__getattr__" = some none) && (decide (subIn K (.ref C) (.type "BaseException") = some true) &&
  (decide (findIn K (.ref C) "__class__" = some (some (.builtin "object.__class__"))) && decide (mroIn K C (.type "object") = some true)))))
theorem erc_of {K : Frag} {C : Addr} (h : ercB K C = true) : ErC K C := by
  unfold ercB at h
  simp only [Bool.and_eq_true, decide_eq_true_eq] at h
  obtain ⟨h1, h2, h3, h4, h5, h6⟩ := h
  exact ⟨h1, h2, h3, h4, h5, h6⟩
def extB (K : Frag) (C : Addr) (bmB : List Value) (newId : String) : Bool := excInitIn K C bmB newId && (excOver K C bmB && (decide (findIn K (.ref C) "__setattr__" = ndict) && keepIn K (.ref C)))
theorem ext_of {K : Frag} {C : Addr} {bmB : List Value} {newId : String} (h : extB K C bmB newId = true) (e : ErC K C) : ExT K C bmB newId := by
  unfold extB at h
  simp only [Bool.and_eq_true, decide_eq_true_eq] at h
  obtain ⟨h1, h2, h3, h4⟩ := h
  exact ⟨h1, h2, h3, e.hd, e.ga, e.gg, e.sub, h4⟩
def nonB (K : Frag) (C : Addr) (n : Str) : Bool := decide (findIn K (.ref C) n = some none)
end LL
namespace LL
open PySem PySem.Spec PyProof.Rows L2
theorem er1_mk {K : PySem.W.Frag} {h : Heap} {mg : Str → Option Value} {x n : Str} {C fI : Addr} {B newId initId : String} {bmB : List Value} {qual : Str} {st : Stmt} {oc : Value} {od an : Option Addr} {sl : Array (Option Value)} {kV dc pm cd ct : Value}
    (X : K.In h) (G : h.Ns mainGlobals mg) (SF : StoreFacts B bmB "object.__setattr__" "object") (FB : ExcBaseFacts B newId initId bmB) (e : ErC K C)
    (Sc : FnScope ["self", n] ["self", n] (defScope st)) (l1 : (defScope st).names.lookup ("self" : Str) = some .local) (l2 : (defScope st).names.lookup n = some .local) (nd : (n == ("__debug__" : Str)) = false) {q1 q2 q3 q4 : Pos} (hb : defBody st = [.Assign [.Attribute (.Name "self" q1) n q2] (.Name n q3) q4])
    (bd : ∀ (kV doc pm : Value) (an : Option Addr) (cdv ct : Value) (us : List Value), us.length = (["self", n] : List Str).length → bindArgs (PySem.W.fnOf "__init__" qual (defArgs st) (defBody st) (defScope st) .none kV doc pm an cdv ct) ⟨us, []⟩ = pure ((["self", n] : List Str).zip us))
    (aC : PySem.W.nsIn K mainGlobals x = some (some (.ref C))) (t : extB K C bmB newId = true) (no : PySem.W.findIn K (.ref C) n = some none) (iC : PySem.W.findIn K (.ref C) "__init__" = some (some (.ref fI))) (tI : PySem.W.typeIn K (.ref fI) = some (.type "function"))
    (lI : K.lookup fI = some ⟨oc, od, .func (PySem.W.fnOf "__init__" qual (defArgs st) (defBody st) (defScope st) .none kV dc pm an cd ct), sl⟩) (cI : PySem.W.codeIn K cd qual = true) (kI : PySem.W.keepIn K (.ref fI) = true) : Er1 K mg x n C := by
  have T := ext_of t e
  have F := fun_mk lI cI kI
  exact ⟨PySem.W.mg_of X G aC, no, T.kp, fun X' lim room hq => made1 SF FB T no iC tI F Sc (F.binds bd) l1 l2 nd hb X' lim room hq⟩
end LL

set_option Elab.async false
set_option linter.all false
namespace K01
/-! the mathematics of fractions -/
def sg (b : Int) : Int := if 0 < b then 1 else -1
def lo (a b : Int) : Int × Int := (sg b * a / (Int.gcd a b : Int), sg b * b / (Int.gcd a b : Int))
theorem gcd_step (a b : Int) : Int.gcd b (a.fmod b) = Int.gcd a b := by
  have e : a.fmod b + b * a.fdiv b = a := by rw [Int.fmod_def]; omega
  apply Nat.dvd_antisymm
  · apply Int.natCast_dvd_natCast.mp
    apply Int.dvd_coe_gcd
    · rw [← e]
      exact Int.dvd_add (by rw [e]; exact Int.gcd_dvd_right ..) (Int.dvd_trans (by rw [e]; exact Int.gcd_dvd_left ..) (Int.dvd_mul_right ..))
    · exact Int.gcd_dvd_left ..
  · apply Int.natCast_dvd_natCast.mp
    apply Int.dvd_coe_gcd
    · exact Int.gcd_dvd_right ..
    · have h : a.fmod b = a - b * a.fdiv b := by rw [Int.fmod_def]
      rw [h]
      exact Int.dvd_sub (Int.gcd_dvd_left ..) (Int.dvd_trans (Int.gcd_dvd_right ..) (Int.dvd_mul_right ..))
theorem fmod_small (a b : Int) (h : b ≠ 0) : (a.fmod b).natAbs < b.natAbs := by
  rw [Int.fmod_eq_emod]
  have h1 := Int.emod_nonneg a h
  have h2 : a % b < (b.natAbs : Int) := by
    by_cases c : 0 < b
    · have := Int.emod_lt_of_pos a c
      omega
    · have := Int.emod_lt_of_pos a (b := -b) (by omega)
      rw [Int.emod_neg] at this
      omega
  split
  · rename_i c
    omega
  · rename_i c
    have c1 : ¬ 0 ≤ b := fun z => c (.inl z)
    have c2 : ¬ b ∣ a := fun z => c (.inr z)
    have c3 : a % b ≠ 0 := fun z => c2 (Int.dvd_of_emod_eq_zero z)
    omega
theorem gcd_pos (a b : Int) (h : b ≠ 0) : 0 < (Int.gcd a b : Int) := by
  have : Int.gcd a b ≠ 0 := fun z => h (Int.gcd_eq_zero_iff.mp z).2
  omega
theorem gcd_le (a b : Int) (h : b ≠ 0) : Int.gcd a b ≤ b.natAbs := Nat.le_of_dvd (by omega) (Int.natAbs_dvd_natAbs.mpr (Int.gcd_dvd_right a b) |> fun z => by simpa using z)
theorem div_neg {a g : Int} (hg : 0 < g) (d : g ∣ a) : a.fdiv (-g) = -1 * a / g := by
  obtain ⟨k, rfl⟩ := d
  have e1 : g * k = (-g) * (-k) := by rw [Int.neg_mul_neg]
  have e2 : -1 * (g * k) = g * (-k) := by rw [Int.mul_neg, Int.neg_mul, Int.one_mul]
  rw [e2, Int.mul_ediv_cancel_left _ (by omega), e1, Int.mul_fdiv_cancel_left _ (by omega)]
theorem lo_neg {a b : Int} (h : b < 0) : (a.fdiv (-(Int.gcd a b : Int)), b.fdiv (-(Int.gcd a b : Int))) = lo a b := by
  have g := gcd_pos a b (by omega)
  unfold lo sg
  rw [if_neg (by omega), div_neg g (Int.gcd_dvd_left ..), div_neg g (Int.gcd_dvd_right ..)]
theorem lo_pos {a b : Int} (h : 0 < b) : (a.fdiv (Int.gcd a b : Int), b.fdiv (Int.gcd a b : Int)) = lo a b := by
  have g := gcd_pos a b (by omega)
  unfold lo sg
  rw [if_pos h, Int.one_mul, Int.one_mul, Int.fdiv_eq_ediv_of_nonneg _ (by omega), Int.fdiv_eq_ediv_of_nonneg _ (by omega)]
theorem lo_self {a b : Int} (h : 1 ≤ b) : lo a b = (a, b) ↔ Int.gcd a b = 1 := by
  have g := gcd_pos a b (by omega)
  unfold lo sg
  rw [if_pos (by omega), Int.one_mul, Int.one_mul]
  constructor
  · intro e
    have e2 : b / (Int.gcd a b : Int) = b := congrArg Prod.snd e
    by_cases z : Int.gcd a b = 1
    · exact z
    · exfalso
      have z2 : (2 : Int) ≤ (Int.gcd a b : Int) := by omega
      have := Int.ediv_lt_of_lt_mul (a := b) (b := b) (c := (Int.gcd a b : Int)) g (by
        have : b * 2 ≤ b * (Int.gcd a b : Int) := Int.mul_le_mul_of_nonneg_left z2 (by omega)
        omega)
      omega
  · intro e
    rw [e]
    show (a / ((1 : Nat) : Int), b / ((1 : Nat) : Int)) = (a, b)
    rw [Int.natCast_one, Int.ediv_one, Int.ediv_one]
theorem ediv_abs {x g : Int} (hg : 0 < g) (d : g ∣ x) : (x / g).natAbs ≤ x.natAbs := by
  obtain ⟨k, rfl⟩ := d
  rw [Int.mul_ediv_cancel_left _ (by omega), Int.natAbs_mul]
  exact Nat.le_mul_of_pos_left _ (by omega)
theorem sg_abs (b a : Int) : (sg b * a).natAbs = a.natAbs := by
  unfold sg
  split <;> simp
theorem sg_dvd {g a : Int} (b : Int) (d : g ∣ a) : g ∣ sg b * a := Int.dvd_trans d (Int.dvd_mul_left ..)
theorem lo_abs {a b : Int} (h : b ≠ 0) : (lo a b).1.natAbs ≤ a.natAbs ∧ (lo a b).2.natAbs ≤ b.natAbs := by
  have g := gcd_pos a b h
  have h1 := ediv_abs g (sg_dvd b (Int.gcd_dvd_left a b))
  have h2 := ediv_abs g (sg_dvd b (Int.gcd_dvd_right a b))
  rw [sg_abs] at h1 h2
  exact ⟨h1, h2⟩
theorem lo_bottom {a b : Int} (h : b ≠ 0) : 0 < (lo a b).2 := by
  have g := gcd_pos a b h
  have p : 0 < sg b * b := by
    unfold sg
    split
    · omega
    · omega
  obtain ⟨k, e⟩ := sg_dvd b (Int.gcd_dvd_right a b)
  show 0 < sg b * b / (Int.gcd a b : Int)
  rw [e, Int.mul_ediv_cancel_left _ (by omega)]
  rw [e] at p
  by_cases z : 0 < k
  · exact z
  · exfalso
    have : (Int.gcd a b : Int) * k ≤ 0 := Int.mul_nonpos_of_nonneg_of_nonpos (by omega) (by omega)
    omega
end K01

set_option Elab.async false
set_option linter.all false
set_option maxRecDepth 100000
set_option maxHeartbeats 4000000
namespace K01
open PySem PySem.Spec PyProof.Rows L2 LL
def topS (i : Nat) : Stmt := PySem.Challenge.pw_lesslater_k01_fractions_made.main.body.getD i (.Pass ⟨0, 0, 0, 0⟩)
abbrev sWhole : Stmt := topS 4
abbrev sCd : Stmt := topS 5
abbrev sIsF : Stmt := topS 6
abbrev sFr : Stmt := topS 7
abbrev sDeck : Stmt := topS 9
abbrev sTake : Stmt := topS 10
abbrev sOne : Stmt := topS 11
abbrev sFrac : Stmt := topS 12
abbrev sInt : Stmt := topS 13
abbrev sLif : Stmt := topS 14
theorem scWhole : FnScope ["value"] ["value"] (defScope sWhole) := ⟨rfl, rfl, rfl, by decide +kernel, rfl, by decide +kernel, by decide +kernel⟩
theorem scCd : FnScope ["one", "other"] ["one", "other"] (defScope sCd) := ⟨rfl, rfl, rfl, by decide +kernel, rfl, by decide +kernel, by decide +kernel⟩
theorem scIsF : FnScope ["value", "top", "bottom"] ["value"] (defScope sIsF) := ⟨rfl, rfl, rfl, by decide +kernel, rfl, by decide +kernel, by decide +kernel⟩
theorem scDeck : FnScope ["_law_script", "_law_great", "_law_small", "_law_cell"] ["_law_script"] (defScope sDeck) := ⟨rfl, rfl, rfl, by decide +kernel, rfl, by decide +kernel, by decide +kernel⟩
theorem scTake : FnScope ["_law_deck_here", "_law_limit", "_law_digit", "_law_mixed"] ["_law_deck_here", "_law_limit"] (defScope sTake) := ⟨rfl, rfl, rfl, by decide +kernel, rfl, by decide +kernel, by decide +kernel⟩
theorem scOne : FnScope ["_law_deck_here", "_law_items"] ["_law_deck_here", "_law_items"] (defScope sOne) := ⟨rfl, rfl, rfl, by decide +kernel, rfl, by decide +kernel, by decide +kernel⟩
theorem scFrac : FnScope ["_law_above", "_law_below", "_law_one_here", "_law_other", "_law_sign"] ["_law_above", "_law_below"] (defScope sFrac) := ⟨rfl, rfl, rfl, by decide +kernel, rfl, by decide +kernel, by decide +kernel⟩
theorem scInt : FnScope ["_law_value"] ["_law_value"] (defScope sInt) := ⟨rfl, rfl, rfl, by decide +kernel, rfl, by decide +kernel, by decide +kernel⟩
theorem scLif : FnScope ["_law_value"] ["_law_value"] (defScope sLif) := ⟨rfl, rfl, rfl, by decide +kernel, rfl, by decide +kernel, by decide +kernel⟩

def BagO (o : HO) : Prop := ∃ g m c : Int, o = .lst [.int g, .int m, .int c] ∧ 0 ≤ g ∧ 0 ≤ m ∧ m < 2305843009213693952
def BagAt (H : Hp) (b : Addr) : Prop := ∃ o, H b = some o ∧ BagO o
theorem BagAt.ne {H : Hp} {b : Addr} (h : BagAt H b) : H b ≠ none := by
  obtain ⟨o, e, _⟩ := h
  rw [e]
  simp
theorem BagAt.up {H H' : Hp} {b : Addr} (h : BagAt H b) (s : Same H H') : BagAt H' b := by
  obtain ⟨o, e, z⟩ := h
  exact ⟨o, s _ _ e, z⟩
/-- what is_fraction tells -/
def isF : PyData → Bool
  | .tuple [.int a, .int b] => decide (1 ≤ b) && decide (Int.gcd a b = 1)
  | _ => false
def spWhole (K : PySem.W.Frag) : Sp := fun vs H Q _ => ∃ (v : V) (d : PyData), vs = [v] ∧ Dq K H v d ∧ Q (.bl (isI d)) H
def spCd : Sp := fun vs H Q _ => ∃ a b : Int, vs = [.int a, .int b] ∧ Q (.int (Int.gcd a b)) H
def spIsF (K : PySem.W.Frag) : Sp := fun vs H Q _ => ∃ (v : V) (d : PyData), vs = [v] ∧ Dq K H v d ∧ Q (.bl (isF d)) H
def spDeck (K : PySem.W.Frag) : Sp := fun vs H Q _ => ∃ (a : Addr) (ns : List Int), vs = [.ref a] ∧ SqL K H a (ns.map V.int) ∧ ns.length ≤ 63 ∧
  ∀ H' p, Same H H' → H p = none → BagAt H' p → Q (.ref p) H'
def spTake : Sp := fun vs H Q _ => ∃ (b : Addr) (k : Int), vs = [.ref b, .int k] ∧ BagAt H b ∧ 0 < k ∧ k.natAbs.log2 < 9000 ∧
  ∀ n o, 0 ≤ n → n < k → BagO o → Q (.int n) (upd H b o)
def spOne (K : PySem.W.Frag) : Sp := fun vs H Q _ => ∃ (b l : Addr) (xs : List V), vs = [.ref b, .ref l] ∧ BagAt H b ∧ SqL K (wo H b) l xs ∧ 0 < xs.length ∧ xs.length < 1000 ∧
  ∀ x o, x ∈ xs → BagO o → Q x (upd H b o)
/-- numbers of at most three hundred bits -/
abbrev Bd (n : Int) : Prop := n.natAbs < 2 ^ 200
theorem bd_log {n : Int} (h : Bd n) : n.natAbs.log2 < 9000 := by
  have : n.natAbs.log2 < 200 := PySem.Flt.log2_lt_of (by decide) h
  omega
def spFrac : Sp := fun vs H Q _ => ∃ a b : Int, vs = [.int a, .int b] ∧ b ≠ 0 ∧ Bd b ∧ ∀ p, H p = none → Q (.ref p) (upd H p (.tup [.int (lo a b).1, .int (lo a b).2]))
/-- data whose numbers are small enough for a fraction -/
def FitP (d : PyData) : Prop := ∀ a b, d = .tuple [.int a, .int b] → Bd b
def spLif (K : PySem.W.Frag) : Sp := fun vs H Q _ => ∃ (v : V) (d : PyData), vs = [v] ∧ Dq K H v d ∧ FitP d ∧ ∀ H', Same H H' → Q (.bl (isF d)) H'

theorem isI_int {K : PySem.W.Frag} {H : Hp} {v : V} {d : PyData} (h : Dq K H v d) (e : isI d = true) : ∃ i, v = .int i ∧ d = .int i := by
  cases h with
  | int i => exact ⟨i, rfl, rfl⟩
  | _ => cases e
section
variable {P : Program} {w : World} {K : PySem.W.Frag} {mg : Str → Option Value} {base : Heap}
theorem isI_of (d : PyData) : (if isIB d = true then (!isB d) else false) = isI d := by cases d <;> rfl
theorem ok_whole {f : Addr} {fd : FuncData} {k : Nat} (F : Fun K "is_whole_number" "is_whole_number" sWhole f fd) (mi : mg "isinstance" = none) (mint : mg "int" = none) (mb : mg "bool" = none) :
    FnOk P w K mg base CX0 (k + 1) f fd ["value"] (spWhole K) := by
  refine F.ok scWhole (fun vs H Q E h => ?_) (fun cdv A outer s H vs Q E hr h => ?_)
  · obtain ⟨v, d, rfl, _⟩ := h
    rfl
  obtain ⟨v, d, rfl, hd, q⟩ := h
  refine ⟨_, pss_one (ps_ret (pe_and (is_dat (T := "int") mi (pv 0) mint (by decide +kernel)) (pe_one (pe_not (is_dat (T := "bool") mi (pv 0) mb (by decide +kernel)))))), ?_⟩
  refine ⟨v, rfl, d, _, hd, kit_int d, _, rfl, ?_⟩
  rw [← isI_of d] at q
  cases e : isIB d with
  | true =>
    rw [e] at q
    exact iteT ⟨v, rfl, d, _, hd, kit_bool d, _, rfl, q⟩
  | false =>
    rw [e] at q
    exact iteF q
theorem ok_int {f : Addr} {fd : FuncData} {k : Nat} (F : Fun K "_law_is_integer" "_law_is_integer" sInt f fd) (mi : mg "isinstance" = none) (mint : mg "int" = none) (mb : mg "bool" = none) :
    FnOk P w K mg base CX0 (k + 1) f fd ["_law_value"] (spWhole K) := by
  refine F.ok scInt (fun vs H Q E h => ?_) (fun cdv A outer s H vs Q E hr h => ?_)
  · obtain ⟨v, d, rfl, _⟩ := h
    rfl
  obtain ⟨v, d, rfl, hd, q⟩ := h
  refine ⟨_, pss_one (ps_ret (pe_and (is_dat (T := "int") mi (pv 0) mint (by decide +kernel)) (pe_one (pe_not (is_dat (T := "bool") mi (pv 0) mb (by decide +kernel)))))), ?_⟩
  refine ⟨v, rfl, d, _, hd, kit_int d, _, rfl, ?_⟩
  rw [← isI_of d] at q
  cases e : isIB d with
  | true =>
    rw [e] at q
    exact iteT ⟨v, rfl, d, _, hd, kit_bool d, _, rfl, q⟩
  | false =>
    rw [e] at q
    exact iteF q
theorem ok_cd {f : Addr} {fd : FuncData} {k : Nat} (F : Fun K "common_divisor" "common_divisor" sCd f fd) (mabs : mg "abs" = none) :
    FnOk P w K mg base CX0 (k + 1) f fd ["one", "other"] spCd := by
  refine F.ok scCd (fun vs H Q E h => ?_) (fun cdv A outer s H vs Q E hr h => ?_)
  · obtain ⟨a, b, rfl, _⟩ := h
    rfl
  obtain ⟨a, b, rfl, q⟩ := h
  refine ⟨_, pss_cons (ps_while PassesOwn.never (pt_cmpR op_ne (pv 1) pe_int (nomark _)) (pss_one (ps_par (i := 0) (j := 1) (by rfl) scCd.nd rfl rfl (by decide) rfl rfl (pa_cons (pv 1) (pa_cons (pe_op op_modN (pv 0) (pv 1)) pa_nil)) (by rfl))))
    (pss_one (ps_ret (pe_callB call_abs (by rfl) mabs (by decide +kernel) (pa_cons (pv 0) pa_nil)))), ?_⟩
  refine while_by (fun σ H' => ∃ x y : Int, σ = [some (.int x), some (.int y)] ∧ H' = H ∧ Int.gcd x y = Int.gcd a b) (fun σ _ => match σ with | [_, some (.int y)] => y.natAbs | _ => 0) ⟨a, b, rfl, rfl, rfl⟩ ?_ ?_
  · rintro σ H' ⟨x, y, rfl, rfl, hg⟩
    refine ⟨_, rfl, rfl, _, rfl, ?_⟩
    by_cases hy : y = 0
    · subst hy
      rw [decide_eq_true rfl]
      refine iteF ⟨_, rfl, _, rfl, ?_⟩
      have e : (if x < 0 then -x else x) = (Int.gcd a b : Int) := by
        rw [← hg, Int.gcd_zero_right]
        split <;> omega
      rw [e]
      exact q
    · rw [decide_eq_false (fun z => hy (V.int.inj z))]
      refine iteT ⟨_, rfl, _, rfl, _, rfl, _, _, rfl, rfl, hy, _, _, rfl, ⟨_, _, rfl, rfl, ?_⟩, ?_⟩
      · rw [gcd_step]
        exact hg
      · exact fmod_small x y hy
  · rintro σ H' Q1 Q2 h ⟨v, e, sc, k', ek, z⟩
    exact ⟨v, e, sc, k', ek, h _ _ z⟩
theorem isT_tup {K : PySem.W.Frag} {H : Hp} {v : V} {d : PyData} (h : Dq K H v d) (e : isT d = true) : ∃ a xs ds, v = .ref a ∧ d = .tuple ds ∧ SqT K H a xs ∧ DqAll K H xs ds := by
  cases h with
  | tup h r => exact ⟨_, _, _, rfl, rfl, h, r⟩
  | _ => cases e
theorem isF_no {d : PyData} (e : isT d = false) : isF d = false := by
  cases d <;> first | rfl | cases e
theorem isF_len {ds : List PyData} (h : ds.length ≠ 2) : isF (.tuple ds) = false := by
  match ds, h with
  | [], _ => rfl
  | [_], _ => unfold isF; split <;> first | rfl | (rename_i z; cases z)
  | _ :: _ :: _ :: _, _ => unfold isF; split <;> first | rfl | (rename_i z; cases z)
theorem isF_two {d e : PyData} (h : (isI d && isI e) = false) : isF (.tuple [d, e]) = false := by
  unfold isF
  split
  · rename_i a b z
    injection z with z
    injection z with z1 z
    injection z with z2 z
    subst z1 z2
    cases h
  · rfl
theorem two_of {K : PySem.W.Frag} {H : Hp} {xs : List V} {ds : List PyData} (h : DqAll K H xs ds) (l : xs.length = 2) : ∃ x y d e, xs = [x, y] ∧ ds = [d, e] ∧ Dq K H x d ∧ Dq K H y e := by
  match h with
  | .cons a (.cons b .nil) => exact ⟨_, _, _, _, rfl, rfl, a, b⟩
theorem ok_isf {f fW fC : Addr} {fd fdW fdC : FuncData} (F : Fun K "is_fraction" "is_fraction" sIsF f fd) (mi : mg "isinstance" = none) (mt : mg "tuple" = none) (ml : mg "len" = none)
    (gW : mg "is_whole_number" = some (.ref fW)) (kW : PySem.W.keepIn K (.ref fW) = true) (bW : Binds K fdW ["value"] []) (GW : FnOk P w K mg base CX0 1 fW fdW ["value"] (spWhole K))
    (gC : mg "common_divisor" = some (.ref fC)) (kC : PySem.W.keepIn K (.ref fC) = true) (bC : Binds K fdC ["one", "other"] []) (GC : FnOk P w K mg base CX0 1 fC fdC ["one", "other"] spCd) :
    FnOk P w K mg base CX0 2 f fd ["value"] (spIsF K) := by
  refine F.ok scIsF (fun vs H Q E h => ?_) (fun cdv A outer s H vs Q E hr h => ?_)
  · obtain ⟨v, d, rfl, _⟩ := h
    rfl
  obtain ⟨v, d, rfl, hd, q⟩ := h
  refine ⟨_, pss_cons (ps_if (PW.pt (pw_or (pt_not (pt_val (is_dat (T := "tuple") mi (pv 0) mt (by decide +kernel)))) (pw_or1 (pt_cmpR op_ne (pe_callB call_len_seq (by rfl) ml PySem.boot_len (pa_cons (pv 0) pa_nil)) pe_int (nomark _))))) (pss_one (ps_ret pe_bl)) pss_nil)
    (pss_cons (ps_asg (pv 0) (pg_tup (by rfl) (pgs_cons (pg_name (i := 1) scIsF.nd rfl (.inl rfl)) (pgs_cons (pg_name (i := 2) scIsF.nd rfl (.inl rfl)) pgs_nil))))
    (pss_cons (ps_if (PW.pt (pw_or (pt_not (pt_val (pe_call GW hr (by rfl) gW kW bW .nil pass0 (pa_cons (pv 1) pa_nil)))) (pw_or1 (pt_not (pt_val (pe_call GW hr (by rfl) gW kW bW .nil pass0 (pa_cons (pv 2) pa_nil))))))) (pss_one (ps_ret pe_bl)) pss_nil)
    (pss_one (ps_ret (pe_and (pe_cmpR op_ge (pv 2) pe_int (nomark _)) (pe_one (pe_cmpR op_eq (pe_call GC hr (by rfl) gC kC bC .nil pass0 (pa_cons (pv 1) (pa_cons (pv 2) pa_nil))) pe_int (nomark _)))))))), ?_⟩
  refine ⟨v, rfl, d, _, hd, kit_tuple d, _, rfl, ?_⟩
  cases eT : isT d with
  | false =>
    rw [isF_no eT] at q
    exact iteT (iteT q)
  | true =>
    obtain ⟨a, xs, ds, rfl, rfl, hs, hA⟩ := isT_tup hd eT
    refine iteF ⟨_, rfl, a, xs, rfl, .inr hs, rfl, _, rfl, ?_⟩
    by_cases hl : xs.length = 2
    · rw [decide_eq_true (show V.int (xs.length : Int) = V.int 2 by rw [hl]; rfl)]
      obtain ⟨x, y, dx, dy, rfl, rfl, hx, hy⟩ := two_of hA hl
      refine iteF ?_
      refine ⟨_, rfl, a, [x, y], rfl, hs, rfl, x, [y], rfl, y, [], rfl, rfl, ?_⟩
      refine ⟨_, rfl, x, dx, rfl, hx, _, rfl, ?_⟩
      cases eX : isI dx with
      | false =>
        rw [isF_two (by rw [eX]; rfl)] at q
        exact iteT (iteT q)
      | true =>
        refine iteF ⟨_, rfl, y, dy, rfl, hy, _, rfl, ?_⟩
        cases eY : isI dy with
        | false =>
          rw [isF_two (by rw [eX, eY]; rfl)] at q
          exact iteT q
        | true =>
          obtain ⟨m, rfl, rfl⟩ := isI_int hx eX
          obtain ⟨n, rfl, rfl⟩ := isI_int hy eY
          have q' : Q (.bl (decide (1 ≤ n) && decide (Int.gcd m n = 1))) H := q
          refine iteF ⟨_, rfl, _, _, rfl, rfl, _, rfl, ?_⟩
          by_cases h1 : (1 : Int) ≤ n
          · rw [decide_eq_true h1] at q' ⊢
            refine iteT ⟨_, rfl, _, rfl, m, n, rfl, rfl, ?_⟩
            have e : decide (V.int (Int.gcd m n : Int) = V.int 1) = decide (Int.gcd m n = 1) := decide_eq_decide.mpr ⟨fun z => by have := V.int.inj z; omega, fun z => by rw [z]; rfl⟩
            rw [e]
            exact q'
          · rw [decide_eq_false h1] at q' ⊢
            exact iteF q'
    · rw [decide_eq_false (fun z => hl (by have := V.int.inj z; omega))]
      rw [isF_len (by rw [← hA.length]; exact hl)] at q
      exact iteT q
theorem ok_deck {f : Addr} {fd : FuncData} {k : Nat} (F : Fun K "_law_deck" "_law_deck" sDeck f fd) (ml : mg "len" = none) (mabs : mg "abs" = none) (mint : mg "int" = none) :
    FnOk P w K mg base CX0 (k + 1) f fd ["_law_script"] (spDeck K) := by
  refine F.ok scDeck (fun vs H Q E h => ?_) (fun cdv A outer s H vs Q E hr h => ?_)
  · obtain ⟨a, ns, rfl, _⟩ := h
    rfl
  obtain ⟨a, ns, rfl, hS, hlen, q⟩ := h
  refine ⟨_, pss_cons (ps_par (i := 1) (j := 2) (by rfl) scDeck.nd rfl rfl (by decide) rfl rfl (pa_cons pe_int (pa_cons (pe_op op_add pe_int (pe_op op_mul pe_int (pe_callB call_len_seq (by rfl) ml PySem.boot_len (pa_cons (pv 0) pa_nil)))) pa_nil)) (by rfl))
    (pss_cons (ps_for PassesOwn.never rfl (pi_list (pe_slice sl_list (pv 0) po_none (po_some pe_int))) (pg_name (i := 3) scDeck.nd rfl (.inl rfl))
      (pss_one (ps_if (pt_cmpR op_ge (pv 3) (pe_op op_pow pe_int pe_int) (nomark _))
        (pss_one (ps_set (i := 1) scDeck.nd rfl (.inl rfl) (pe_op op_sub (pe_op op_add (pe_op op_mul (pv 1) pe_int) (pv 3)) (pe_op op_pow pe_int pe_int))))
        (pss_cons (ps_set (i := 2) scDeck.nd rfl (.inl rfl) (pe_op op_add (pe_op op_mul (pv 2) pe_int) (pe_op op_mul pe_int (pe_callB call_abs (by rfl) mabs (by decide +kernel) (pa_cons (pv 3) pa_nil)))))
          (pss_one (ps_set (i := 2) scDeck.nd rfl (.inl rfl) (pe_op op_mod (pe_callTy call_int1 (by rfl) mint (by decide +kernel) (pa_cons (pe_op op_add (pv 2) (pe_callTy call_int1 (by rfl) mint (by decide +kernel) (pa_cons (pe_cmpR op_lt (pv 3) pe_int (nomark _)) pa_nil))) pa_nil)) pe_int)))))))
    (pss_one (ps_ret (pe_lst (pa_cons (pv 1) (pa_cons (pv 2) (pa_cons pe_int pa_nil))))))), ?_⟩
  refine ⟨.ref a, rfl, a, ns.map V.int, rfl, .inl hS, 37, _, rfl, rfl, .inl ⟨by decide, by decide⟩, _, _, rfl, rfl, _, _, rfl, ?_⟩
  refine ⟨.ref a, rfl, 63, rfl, a, ns.map V.int, rfl, hS, fun c nc => ?_⟩
  have sc := same_new (H := H) (p := c) (o := .lst (cutV (ns.map V.int) none (some 63))) nc
  obtain ⟨zs, ez⟩ : ∃ zs : List Int, cutV (ns.map V.int) none (some 63) = zs.map V.int := by
    refine ⟨?zz, ?ee⟩
    case ee =>
      unfold cutV
      rw [← List.map_drop, ← List.map_take]
  refine ⟨c, rfl, ⟨_, SqL.of upd_same⟩, ?_⟩
  refine for_list (K := K) (a := c) (xs := zs.map V.int) (fun i σ H2 => ∃ (g m : Int) (v : Option V), σ = [some (.ref a), some (.int g), some (.int m), v] ∧ 0 ≤ g ∧ 0 ≤ m ∧ m < 2305843009213693952 ∧ Same H H2 ∧ H2 c = some (.lst (zs.map V.int))) ?_ ?_ ?_ ?_
  · refine ⟨_, _, _, rfl, by decide, ?_, ?_, sc, by rw [upd_same, ez]⟩
    · rw [List.length_map]; omega
    · rw [List.length_map]; omega
  · rintro i σ H2 _ ⟨_, _, _, _, _, _, _, _, e⟩
    exact SqL.of e
  · rintro i y σ H2 hi ⟨g, m, v, rfl, g0, m0, m1, s2, e2⟩
    obtain ⟨z, _, rfl⟩ := List.mem_map.mp (List.mem_of_getElem? hi)
    refine ⟨_, rfl, 10, 18, rfl, rfl, ⟨by decide, by decide, by decide⟩, _, _, rfl, rfl, _, rfl, ite2 (fun c1 => ?_) (fun c1 => ?_)⟩
    · have c2 : (10 : Int) ^ (18 : Int).toNat ≤ z := of_decide_eq_true c1
      refine ⟨_, rfl, _, _, rfl, rfl, .inr ⟨by decide, by decide⟩, _, rfl, _, _, rfl, rfl, 10, 18, rfl, rfl, ⟨by decide, by decide, by decide⟩, _, _, rfl, rfl, ?_⟩
      refine ⟨_, m, _, rfl, ?_, m0, m1, s2, e2⟩
      omega
    · refine ⟨_, rfl, _, _, rfl, rfl, .inr ⟨by decide, by decide⟩, _, rfl, _, rfl, 2, _, rfl, rfl, .inl ⟨by decide, by decide⟩, _, _, rfl, rfl, ?_⟩
      refine ⟨_, rfl, _, rfl, _, _, rfl, rfl, .inr ⟨_, rfl, _, _, rfl, rfl, .inl ⟨_, rfl, _, _, rfl, rfl, (by show (0 : Int) < 2305843009213693951; decide), ?_⟩⟩⟩
      refine ⟨g, _, _, rfl, g0, Int.emod_nonneg _ (by decide), ?_, s2, e2⟩
      exact Int.lt_trans (Int.emod_lt_of_pos _ (by decide)) (by decide)
  · rintro σ H2 ⟨g, m, v, rfl, g0, m0, m1, s2, e2⟩
    refine ⟨_, rfl, _, rfl, (by show 3 ≤ sizeLine; decide), fun p np => ?_⟩
    exact q _ p (s2.trans (same_new np)) (s2.free np) ⟨_, upd_same, g, m, 0, rfl, g0, m0, m1⟩
theorem ok_take {f : Addr} {fd : FuncData} {k : Nat} (F : Fun K "_law_take" "_law_take" sTake f fd) (mint : mg "int" = none) :
    FnOk P w K mg base CX0 (k + 1) f fd ["_law_deck_here", "_law_limit"] spTake := by
  refine F.ok scTake (fun vs H Q E h => ?_) (fun cdv A outer s H vs Q E hr h => ?_)
  · obtain ⟨a, k, rfl, _⟩ := h
    rfl
  obtain ⟨b, n, rfl, ⟨_, hb, g, m, c, rfl, g0, m0, m1⟩, n0, n1, q⟩ := h
  refine ⟨_, pss_cons (ps_if (pt_cmpR op_gt (pe_ix ix_list (pv 0) pe_int (fun _ _ => rfl)) pe_int (nomark _))
      (pss_cons (ps_set (i := 2) scTake.nd rfl (.inl rfl) (pe_op op_mod (pe_callTy call_int1 (by rfl) mint (by decide +kernel) (pa_cons (pe_ix ix_list (pv 0) pe_int (fun _ _ => rfl)) pa_nil)) (pv 1)))
      (pss_cons (ps_asg (pe_op op_fdivW (pe_ix ix_list (pv 0) pe_int (fun _ _ => rfl)) (pv 1)) (pg_sub (pv 0) pe_int set_list))
      (pss_one (ps_ret (pv 2))))) pss_nil)
    (pss_cons (ps_asg (pe_op op_add (pe_ix ix_list (pv 0) pe_int (fun _ _ => rfl)) pe_int) (pg_sub (pv 0) pe_int set_list))
    (pss_cons (ps_set (i := 3) scTake.nd rfl (.inl rfl) (pe_op op_add (pe_op op_mul (pe_ix ix_list (pv 0) pe_int (fun _ _ => rfl)) pe_int) (pe_op op_mul pe_int (pe_ix ix_list (pv 0) pe_int (fun _ _ => rfl)))))
    (pss_cons (ps_asg (pe_op op_mod (pe_callTy call_int1 (by rfl) mint (by decide +kernel) (pa_cons (pv 3) pa_nil)) pe_int) (pg_sub (pv 0) pe_int set_list))
    (pss_one (ps_ret (pe_op op_mod (pe_op op_fdiv (pe_op op_mod (pe_callTy call_int1 (by rfl) mint (by decide +kernel) (pa_cons (pe_op op_mul (pe_ix ix_list (pv 0) pe_int (fun _ _ => rfl)) (pe_ix ix_list (pv 0) pe_int (fun _ _ => rfl))) pa_nil)) pe_int) pe_int) (pv 1))))))), ?_⟩
  refine ⟨_, rfl, b, _, 0, _, rfl, rfl, SqL.of hb, atI_nat (j := 0) rfl, _, _, rfl, rfl, _, rfl, ite2 (fun c1 => ?_) (fun c1 => ?_)⟩
  · have c2 : (0 : Int) < g := of_decide_eq_true c1
    refine ⟨_, rfl, b, _, 0, _, rfl, rfl, SqL.of hb, atI_nat (j := 0) rfl, .inl ⟨_, rfl, _, rfl, _, _, rfl, rfl, n0, ?_⟩⟩
    refine ⟨_, rfl, b, _, 0, _, rfl, rfl, SqL.of hb, atI_nat (j := 0) rfl, _, rfl, _, _, rfl, rfl, ⟨n0, n1⟩, _, rfl, b, _, 0, 0, rfl, rfl, hb, rfl, ?_⟩
    refine ⟨_, rfl, ?_⟩
    exact q _ _ (Int.emod_nonneg _ (by omega)) (Int.emod_lt_of_pos _ n0) ⟨_, m, c, rfl, Int.ediv_nonneg g0 (by omega), m0, m1⟩
  · refine ⟨_, rfl, b, _, 2, _, rfl, rfl, SqL.of hb, atI_nat (j := 2) rfl, _, _, rfl, rfl, _, rfl, b, _, 2, 2, rfl, rfl, hb, rfl, ?_⟩
    refine ⟨_, rfl, b, _, 1, _, rfl, rfl, SqL.of upd_same, atI_nat (j := 1) rfl, _, _, rfl, rfl, .inr ⟨by decide, by decide⟩, _, rfl, b, _, 2, _, rfl, rfl, SqL.of upd_same, atI_nat (j := 2) rfl, 3037000493, _, rfl, rfl, .inl ⟨by decide, by decide⟩, _, _, rfl, rfl, ?_⟩
    refine ⟨_, rfl, .inl ⟨_, rfl, _, _, rfl, rfl, (by show (0 : Int) < 2305843009213693951; decide), _, rfl, b, _, 1, 1, rfl, rfl, upd_same, rfl, ?_⟩⟩
    have e0 := Int.emod_nonneg (m * 2862933555777941757 + 3037000493 * (c + 1)) (b := 2305843009213693951) (by decide)
    have e1 := Int.emod_lt_of_pos (m * 2862933555777941757 + 3037000493 * (c + 1)) (b := 2305843009213693951) (by decide)
    refine ⟨_, rfl, b, _, 1, _, rfl, rfl, SqL.of upd_same, atI_nat (j := 1) rfl, _, rfl, b, _, 1, _, rfl, rfl, SqL.of upd_same, atI_nat (j := 1) rfl, _, _, rfl, rfl, .inl ⟨by omega, by omega⟩, .inl ⟨_, rfl, _, _, rfl, rfl, (by show (0 : Int) < 2305843009213693921; decide), _, _, rfl, rfl, ⟨by decide, by decide⟩, _, rfl, _, _, rfl, rfl, n0, ?_⟩⟩
    rw [upd_upd]
    exact q _ _ (Int.emod_nonneg _ (by omega)) (Int.emod_lt_of_pos _ n0) ⟨g, _, c + 1, rfl, g0, e0, by omega⟩
theorem ok_one {f fD : Addr} {fd fdD : FuncData} (F : Fun K "_law_one" "_law_one" sOne f fd) (kD : PySem.W.keepIn K (.ref fD) = true) (bD : Binds K fdD ["_law_deck_here", "_law_limit"] []) (gD : mg "_law_take" = some (.ref fD)) (GD : FnOk P w K mg base CX0 1 fD fdD ["_law_deck_here", "_law_limit"] spTake) (ml : mg "len" = none) :
    FnOk P w K mg base CX0 2 f fd ["_law_deck_here", "_law_items"] (spOne K) := by
  refine F.ok scOne (fun vs H Q E h => ?_) (fun cdv A outer s H vs Q E hr h => ?_)
  · obtain ⟨a, l, xs, rfl, _⟩ := h
    rfl
  obtain ⟨b, l, xs, rfl, hb, hl, x0, x1, q⟩ := h
  refine ⟨_, pss_one (ps_ret (pe_ix ix_list (pv 1) (pe_call GD hr (by rfl) gD kD bD .nil pass0 (pa_cons (pv 0) (pa_cons (pe_callB call_len_seq (by rfl) ml PySem.boot_len (pa_cons (pv 1) pa_nil)) pa_nil))) (fun _ _ => rfl))), ?_⟩
  have lg : ((xs.length : Int)).natAbs.log2 < 9000 := by
    have : ((xs.length : Int)).natAbs.log2 < 10 := PySem.Flt.log2_lt_of (by decide) (by show xs.length < 1024; omega)
    omega
  refine ⟨_, rfl, _, rfl, _, rfl, l, xs, rfl, .inl (wo_same.seq hl), b, xs.length, rfl, hb, by omega, lg, fun n o n0 n1 ho => ?_⟩
  obtain ⟨j, rfl⟩ : ∃ j : Nat, n = (j : Int) := ⟨n.toNat, by omega⟩
  have hj : j < xs.length := by omega
  have hl2 : SqL K (upd H b o) l xs := wo_same.seq ((But.upd (b := b) (H := H) (o := o)).wo.seq hl)
  refine ⟨l, xs, _, xs[j], rfl, rfl, hl2, at_of (j := j) rfl (List.getElem?_eq_getElem hj), ?_⟩
  exact q _ _ (List.getElem_mem hj) ho
theorem ok_frac {f : Addr} {fd : FuncData} {k : Nat} (F : Fun K "_law_frac" "_law_frac" sFrac f fd) (mabs : mg "abs" = none) (mint : mg "int" = none) :
    FnOk P w K mg base CX0 (k + 1) f fd ["_law_above", "_law_below"] spFrac := by
  refine F.ok scFrac (fun vs H Q E h => ?_) (fun cdv A outer s H vs Q E hr h => ?_)
  · obtain ⟨a, b, rfl, _⟩ := h
    rfl
  obtain ⟨a, b, rfl, hb, bd, q⟩ := h
  refine ⟨_, pss_cons (ps_par (i := 2) (j := 3) (by rfl) scFrac.nd rfl rfl (by decide) rfl rfl (pa_cons (pe_callB call_abs (by rfl) mabs (by decide +kernel) (pa_cons (pv 0) pa_nil)) (pa_cons (pe_callB call_abs (by rfl) mabs (by decide +kernel) (pa_cons (pv 1) pa_nil)) pa_nil)) (by rfl))
    (pss_cons (ps_while PassesOwn.never (pt_cmpR op_gt (pv 3) pe_int (nomark _)) (pss_one (ps_par (i := 2) (j := 3) (by rfl) scFrac.nd rfl rfl (by decide) rfl rfl (pa_cons (pv 3) (pa_cons (pe_op op_modN (pe_callTy call_int1 (by rfl) mint (by decide +kernel) (pa_cons (pv 2) pa_nil)) (pv 3)) pa_nil)) (by rfl))))
    (pss_cons (ps_set (i := 4) scFrac.nd rfl (.inl rfl) (pe_ifExp (pt_cmpR op_gt (pv 1) pe_int (nomark _)) pe_int (pe_un un_neg pe_int)))
    (pss_one (ps_ret (pe_tup (pa_cons (pe_op op_fdivW (pe_op op_mul (pv 4) (pv 0)) (pv 2)) (pa_cons (pe_op op_fdivW (pe_op op_mul (pv 4) (pv 1)) (pv 2)) pa_nil))))))), ?_⟩
  refine ⟨_, rfl, _, rfl, _, rfl, _, rfl, _, _, rfl, ?_⟩
  refine while_by (fun σ H' => ∃ (x y : Int), σ = [some (.int a), some (.int b), some (.int x), some (.int y), none] ∧ H' = H ∧ 0 ≤ x ∧ 0 ≤ y ∧ Int.gcd x y = Int.gcd a b) (fun σ _ => match σ with | [_, _, _, some (.int y), _] => y.natAbs | _ => 0) ⟨_, _, rfl, rfl, ?_, ?_, ?_⟩ ?_ ?_
  · split <;> omega
  · split <;> omega
  · have e : ∀ z : Int, (if z < 0 then -z else z).natAbs = z.natAbs := fun z => by split <;> omega
    unfold Int.gcd
    rw [e, e]
  · rintro σ H' ⟨x, y, rfl, rfl, x0, y0, hg⟩
    refine ⟨_, rfl, _, _, rfl, rfl, _, rfl, ?_⟩
    by_cases hy : 0 < y
    · rw [decide_eq_true hy]
      refine iteT ⟨_, rfl, _, rfl, .inl ⟨_, rfl, _, rfl, _, _, rfl, rfl, by omega, _, _, rfl, ⟨_, _, rfl, rfl, y0, ?_, ?_⟩, ?_⟩⟩
      · exact Int.fmod_nonneg_of_pos _ hy
      · rw [gcd_step]
        exact hg
      · exact fmod_small x y (by omega)
    · have z : y = 0 := by omega
      subst z
      rw [decide_eq_false hy]
      have ex : x = (Int.gcd a b : Int) := by
        rw [← hg, Int.gcd_zero_right]
        omega
      subst ex
      have g := gcd_pos a b hb
      have lg : ((Int.gcd a b : Int)).natAbs.log2 < 9000 := bd_log (by
        show ((Int.gcd a b : Int)).natAbs < 2 ^ 200
        have := gcd_le a b hb
        have : b.natAbs < 2 ^ 200 := bd
        omega)
      refine iteF ?_
      have fin : ∀ sgn : Int, sgn = sg b → ∀ p, H' p = none → Q (.ref p) (upd H' p (.tup [.int (sgn * a / (Int.gcd a b : Int)), .int (sgn * b / (Int.gcd a b : Int))])) := by
        rintro sgn rfl p np
        exact q p np
      refine ⟨_, rfl, _, _, rfl, rfl, _, rfl, ite2 (fun c1 => ?_) (fun c1 => ?_)⟩
      · have c2 : (0 : Int) < b := of_decide_eq_true c1
        refine ⟨_, rfl, _, rfl, 1, _, rfl, rfl, .inl ⟨by decide, by decide⟩, _, rfl, _, _, rfl, rfl, ⟨g, lg⟩, _, rfl, _, rfl, 1, _, rfl, rfl, .inl ⟨by decide, by decide⟩, _, rfl, _, _, rfl, rfl, ⟨g, lg⟩, (by show 2 ≤ sizeLine; decide), fun p np => ?_⟩
        exact fin 1 (by unfold sg; rw [if_pos c2]) p np
      · have c2 : ¬ (0 : Int) < b := of_decide_eq_false (by simpa using c1)
        refine ⟨_, rfl, _, rfl, _, rfl, -1, _, rfl, rfl, .inl ⟨by decide, by decide⟩, _, rfl, _, _, rfl, rfl, ⟨g, lg⟩, _, rfl, _, rfl, -1, _, rfl, rfl, .inl ⟨by decide, by decide⟩, _, rfl, _, _, rfl, rfl, ⟨g, lg⟩, (by show 2 ≤ sizeLine; decide), fun p np => ?_⟩
        exact fin (-1) (by unfold sg; rw [if_neg c2]) p np
  · rintro σ H' Q1 Q2 h ⟨v, e, i, j, e1, e2, k', ek, z⟩
    exact ⟨v, e, i, j, e1, e2, k', ek, h _ _ z⟩
end
end K01

set_option Elab.async false
set_option linter.all false
set_option maxRecDepth 100000
set_option maxHeartbeats 4000000
namespace K01
open PySem PySem.Spec PyProof.Rows L2 LL
abbrev sOdd : Stmt := topS 15
abbrev sNum : Stmt := topS 16
abbrev sDue : Stmt := topS 18
theorem scOdd : FnScope ["_law_deck_here", "_law_some"] ["_law_deck_here"] (defScope sOdd) := ⟨rfl, rfl, rfl, by decide +kernel, rfl, by decide +kernel, by decide +kernel⟩
theorem scNum : FnScope ["_law_deck_here", "_law_limit"] ["_law_deck_here"] (defScope sNum) := ⟨rfl, rfl, rfl, by decide +kernel, rfl, by decide +kernel, by decide +kernel⟩
theorem scDue : FnScope ["_law_one_here", "_law_other"] ["_law_one_here", "_law_other"] (defScope sDue) := ⟨rfl, rfl, rfl, by decide +kernel, rfl, by decide +kernel, by decide +kernel⟩
def odd1 : List PyData := [.none, .bool true, .bool false, .int 0, .int 1, .int 3, .int (-(1)), .int (10 ^ (39 : Int).toNat), .int (-((10 ^ (30 : Int).toNat))), .str "", .str "0", .str "task", .tuple [], .list [], .dict [], .tuple [.int 1], .list [.int 0]]
def odd2 : List PyData := [.tuple [.int 0, .int 1], .tuple [.int 1, .int 1], .list [.tuple [.int 1, .int 1]], .tuple [.tuple [.int 1, .int 1]], .str "(1, 1)", .tuple [.int 0], .dict [(.str "low", .int 1)], .tuple [.int 1, .int 2], .tuple [.int 2, .int 4]]
def odd3 : List PyData := [.tuple [.tuple [], .tuple [.int 1, .int 1], .tuple [.int 2, .int 1]]]
def oddD : List PyData := (odd1 ++ odd2) ++ odd3
def numD : List PyData := [.int 0, .int 1, .int 6, .int 6, .int 60, .int (10 ^ (9 : Int).toNat), .int (10 ^ (39 : Int).toNat)]
def spVal (K : PySem.W.Frag) (ds : List PyData) (b : Addr) (H : Hp) (Q : VK) : Prop := ∀ v d H', d ∈ ds → Dq K (wo H' b) v d → BagAt H' b → But b H H' → Q v H'
def spOdd (K : PySem.W.Frag) : Sp := fun vs H Q _ => ∃ b : Addr, vs = [.ref b] ∧ BagAt H b ∧ spVal K oddD b H Q
def spNum : Sp := fun vs H Q _ => ∃ b : Addr, vs = [.ref b] ∧ BagAt H b ∧ ∀ n H', n.natAbs ≤ 10 ^ 39 → BagAt H' b → But b H H' → Q (.int n) H'
/-- what fraction comes to: the place of the error, or the pair -/
def frR : PyData → PyData → Sum Int (Int × Int)
  | .int a, .int b => if b = 0 then .inl 1 else .inr (lo a b)
  | .int _, _ => .inl 1
  | _, _ => .inl 0
def resD : Sum Int (Int × Int) → PyData
  | .inl k => .list [.str "bad", .int k, .bool true, .bool true]
  | .inr p => .tuple [.int p.1, .int p.2]
theorem frR_0 {d e : PyData} (h : isI d = false) : frR d e = .inl 0 := by cases d <;> first | rfl | cases h
theorem frR_1 {a : Int} {e : PyData} (h : isI e = false) : frR (.int a) e = .inl 1 := by cases e <;> first | rfl | cases h
theorem frR_z {a : Int} : frR (.int a) (.int 0) = .inl 1 := rfl
theorem frR_2 {a b : Int} (h : b ≠ 0) : frR (.int a) (.int b) = .inr (lo a b) := if_neg h
def FitI (d : PyData) : Prop := ∀ i, d = .int i → Bd i
def spDue (K : PySem.W.Frag) : Sp := fun vs H Q _ => ∃ (x y : V) (d e : PyData), vs = [x, y] ∧ Dq K H x d ∧ Dq K H y e ∧ FitI e ∧ ∀ v H', Same H H' → Dq K H' v (resD (frR d e)) → Q v H'
section
variable {P : Program} {w : World} {K : PySem.W.Frag} {mg : Str → Option Value} {base : Heap}
theorem ok_odd {f fP : Addr} {fd fdP : FuncData} (F : Fun K "_law_odd" "_law_odd" sOdd f fd) (kP : PySem.W.keepIn K (.ref fP) = true) (bP : Binds K fdP ["_law_deck_here", "_law_items"] []) (gP : mg "_law_one" = some (.ref fP))
    (GP : FnOk P w K mg base CX0 2 fP fdP ["_law_deck_here", "_law_items"] (spOne K)) : FnOk P w K mg base CX0 3 f fd ["_law_deck_here"] (spOdd K) := by
  refine F.ok scOdd (fun vs H Q E h => ?_) (fun cdv A outer s H vs Q E hr h => ?_)
  · obtain ⟨a, rfl, _⟩ := h
    rfl
  obtain ⟨b, rfl, hb, q⟩ := h
  refine ⟨_, pss_cons (ps_set (i := 1) scOdd.nd rfl (.inl rfl) (lit_lstT (ds := odd1) (lits_cons lit_non (lits_cons lit_bl (lits_cons lit_bl (lits_cons lit_int (lits_cons lit_int (lits_cons lit_int (lits_cons (lit_neg lit_int) (lits_cons lit_pow (lits_cons (lit_neg lit_pow) (lits_cons lit_str (lits_cons lit_str (lits_cons lit_str (lits_cons (lit_tup lits_nil) (lits_cons (lit_lst lits_nil) (lits_cons lit_d0 (lits_cons (lit_tup (lits_cons lit_int lits_nil)) (lits_cons (lit_lst (lits_cons lit_int lits_nil)) lits_nil)))))))))))))))))))
    (pss_cons (ps_set (i := 1) scOdd.nd rfl (.inl rfl) (pe_op op_cat (pv 1) (lit_lstT (ds := odd2) (lits_cons (lit_tup (lits_cons lit_int (lits_cons lit_int lits_nil))) (lits_cons (lit_tup (lits_cons lit_int (lits_cons lit_int lits_nil))) (lits_cons (lit_lst (lits_cons (lit_tup (lits_cons lit_int (lits_cons lit_int lits_nil))) lits_nil)) (lits_cons (lit_tup (lits_cons (lit_tup (lits_cons lit_int (lits_cons lit_int lits_nil))) lits_nil)) (lits_cons lit_str (lits_cons (lit_tup (lits_cons lit_int lits_nil)) (lits_cons lit_d1 (lits_cons (lit_tup (lits_cons lit_int (lits_cons lit_int lits_nil))) (lits_cons (lit_tup (lits_cons lit_int (lits_cons lit_int lits_nil))) lits_nil))))))))))))
    (pss_one (ps_ret (pe_call GP hr (by rfl) gP kP bP .nil pass0 (pa_cons (pv 0) (pa_cons (pe_op op_cat (pv 1) (lit_lstT (ds := odd3) (lits_cons (lit_tup (lits_cons (lit_tup lits_nil) (lits_cons (lit_tup (lits_cons lit_int (lits_cons lit_int lits_nil))) (lits_cons (lit_tup (lits_cons lit_int (lits_cons lit_int lits_nil))) lits_nil)))) lits_nil))) pa_nil)))))), ?_⟩
  intro p1 v1 H1 s1 n1 e1 f1
  refine ⟨_, rfl, fun p2 v2 H2 s2 n2 e2 f2 => ?_⟩
  have l1 : v1.length = 17 := f1.dat.length
  have l2 : v2.length = 9 := f2.dat.length
  refine ⟨p1, p2, v1, v2, rfl, rfl, s2 _ _ e1, e2, (by rw [l1, l2]; decide), fun p3 n3 => ?_⟩
  have s3 := same_new (o := .lst (v1 ++ v2)) n3
  refine ⟨_, rfl, _, rfl, fun p4 v4 H4 s4 n4 e4 f4 => ?_⟩
  have l4 : v4.length = 1 := f4.dat.length
  refine ⟨p3, p4, v1 ++ v2, v4, rfl, rfl, s4 _ _ upd_same, e4, (by rw [List.length_append, l1, l2, l4]; decide), fun p5 n5 => ?_⟩
  have s5 := same_new (o := .lst ((v1 ++ v2) ++ v4)) n5
  have s03 := (s1.trans s2).trans s3
  have s05 := (s03.trans s4).trans s5
  have np : p5 ≠ b := fun z => hb.ne (by rw [← z]; exact (s03.trans s4).free n5)
  have hb5 := hb.up s05
  have hA : DqAll K (wo (upd H4 p5 (.lst ((v1 ++ v2) ++ v4))) b) ((v1 ++ v2) ++ v4) oddD :=
    (((f1.sep b hb.ne).up (wo_up (((s2.trans s3).trans s4).trans s5))).append ((f2.sep b (hb.up s1).ne).up (wo_up ((s3.trans s4).trans s5)))).append ((f4.sep b (hb.up s03).ne).up (wo_up s5))
  refine ⟨b, p5, (v1 ++ v2) ++ v4, rfl, hb5, .inl (.inl (wo_at upd_same np)), by rw [List.length_append, List.length_append]; omega, by rw [List.length_append, List.length_append]; omega, fun x o hx ho => ?_⟩
  obtain ⟨d, hd, hD⟩ := hA.mem hx
  exact q x d _ hd (by rw [wo_upd]; exact hD) ⟨o, upd_same, ho⟩ ((But.of s05).trans But.upd)
theorem ok_num {f fP fT : Addr} {fd fdP fdT : FuncData} (F : Fun K "_law_number" "_law_number" sNum f fd) (kP : PySem.W.keepIn K (.ref fP) = true) (bP : Binds K fdP ["_law_deck_here", "_law_items"] []) (gP : mg "_law_one" = some (.ref fP))
    (GP : FnOk P w K mg base CX0 2 fP fdP ["_law_deck_here", "_law_items"] (spOne K)) (kT : PySem.W.keepIn K (.ref fT) = true) (bT : Binds K fdT ["_law_deck_here", "_law_limit"] []) (gT : mg "_law_take" = some (.ref fT)) (GT : FnOk P w K mg base CX0 1 fT fdT ["_law_deck_here", "_law_limit"] spTake) :
    FnOk P w K mg base CX0 3 f fd ["_law_deck_here"] spNum := by
  refine F.ok scNum (fun vs H Q E h => ?_) (fun cdv A outer s H vs Q E hr h => ?_)
  · obtain ⟨a, rfl, _⟩ := h
    rfl
  obtain ⟨b, rfl, hb, q⟩ := h
  refine ⟨_, pss_cons (ps_set (i := 1) scNum.nd rfl (.inl rfl) (pe_call GP hr (by rfl) gP kP bP .nil pass0 (pa_cons (pv 0) (pa_cons (lit_lstT (ds := numD) (lits_cons lit_int (lits_cons lit_int (lits_cons lit_int (lits_cons lit_int (lits_cons lit_int (lits_cons lit_pow (lits_cons lit_pow lits_nil)))))))) pa_nil))))
    (pss_one (ps_ret (pe_op op_sub (pe_call GT (hr.mono (by decide)) (by rfl) gT kT bT .nil pass0 (pa_cons (pv 0) (pa_cons (pe_op op_add (pe_op op_mul pe_int (pv 1)) pe_int) pa_nil))) (pv 1)))), ?_⟩
  refine ⟨_, rfl, fun p1 v1 H1 s1 n1 e1 f1 => ?_⟩
  have l1 : v1.length = 7 := f1.dat.length
  have np : p1 ≠ b := fun z => hb.ne (by rw [← z]; exact n1)
  refine ⟨b, p1, v1, rfl, hb.up s1, .inl (.inl (wo_at e1 np)), by omega, by omega, fun x o hx ho => ?_⟩
  obtain ⟨d, hd, hD⟩ := (f1.sep b hb.ne).mem hx
  obtain ⟨i, rfl, rfl, i0, i1⟩ : ∃ i : Int, x = .int i ∧ d = .int i ∧ 0 ≤ i ∧ i ≤ 10 ^ 39 := by
    have h : numD.all (fun d => match d with | .int i => decide (0 ≤ i) && decide (i ≤ 10 ^ 39) | _ => false) = true := by decide +kernel
    have z := List.all_eq_true.mp h d hd
    cases hD with
    | int i =>
      have z' : (decide ((0 : Int) ≤ i) && decide (i ≤ 10 ^ 39)) = true := z
      simp only [Bool.and_eq_true, decide_eq_true_eq] at z'
      exact ⟨i, rfl, rfl, z'.1, z'.2⟩
    | _ => cases z
  have lg : (2 * i + 1).natAbs.log2 < 9000 := bd_log (by
    show (2 * i + 1).natAbs < 2 ^ 200
    omega)
  refine ⟨_, rfl, _, rfl, 2, _, rfl, rfl, .inl ⟨by decide, by decide⟩, _, _, rfl, rfl, b, _, rfl, ⟨o, upd_same, ho⟩, by omega, lg, fun n o' n0 n1 ho' => ?_⟩
  refine ⟨_, rfl, _, _, rfl, rfl, ?_⟩
  exact q _ _ (by omega) ⟨o', upd_same, ho'⟩ (((But.of s1).trans But.upd).trans But.upd)
end
end K01

set_option Elab.async false
set_option linter.all false
set_option maxRecDepth 100000
set_option maxHeartbeats 4000000
namespace K01
open PySem PySem.Spec PyProof.Rows L2 LL
theorem eqv_two (x y m n : Int) : PyData.eqv (.tuple [.int x, .int y]) (.tuple [.int m, .int n]) = (decide (x = m) && decide (y = n)) := by
  simp only [PyData.eqv, PyData.eqvAll, Bool.and_true]
  by_cases h1 : x = m <;> by_cases h2 : y = n <;> simp [h1, h2]
section
variable {P : Program} {w : World} {K : PySem.W.Frag} {mg : Str → Option Value} {base : Heap}
theorem dq_two {K : PySem.W.Frag} {H : Hp} {p : Addr} {x y : Int} (h : H p = some (.tup [.int x, .int y])) : Dq K H (.ref p) (.tuple [.int x, .int y]) := .tup (.inl (.inl h)) (.cons (.int x) (.cons (.int y) .nil))
theorem shaped_two (x y : Int) : SeqAt.shaped (.tuple [.int x, .int y]) = true := by
  unfold SeqAt.shaped
  simp [PyData.canLay0, PyData.canLayAll0, PyData.depth, PyData.depthAll]
theorem ok_due {f fI fF : Addr} {fd fdI fdF : FuncData} (F : Fun K "_law_due" "_law_due" sDue f fd)
    (gI : mg "_law_is_integer" = some (.ref fI)) (kI : PySem.W.keepIn K (.ref fI) = true) (bI : Binds K fdI ["_law_value"] []) (GI : FnOk P w K mg base CX0 1 fI fdI ["_law_value"] (spWhole K))
    (gF : mg "_law_frac" = some (.ref fF)) (kF : PySem.W.keepIn K (.ref fF) = true) (bF : Binds K fdF ["_law_above", "_law_below"] []) (GF : FnOk P w K mg base CX0 1 fF fdF ["_law_above", "_law_below"] spFrac) :
    FnOk P w K mg base CX0 2 f fd ["_law_one_here", "_law_other"] (spDue K) := by
  refine F.ok scDue (fun vs H Q E h => ?_) (fun cdv A outer s H vs Q E hr h => ?_)
  · obtain ⟨x, y, d, e, rfl, _⟩ := h
    rfl
  obtain ⟨x, y, d, e, rfl, hx, hy, fit, q⟩ := h
  refine ⟨_, pss_cons (ps_if (pt_not (pt_val (pe_call GI hr (by rfl) gI kI bI .nil pass0 (pa_cons (pv 0) pa_nil)))) (pss_one (ps_ret (lit_lst (lits_cons lit_str (lits_cons lit_int (lits_cons lit_bl (lits_cons lit_bl lits_nil))))))) pss_nil)
    (pss_cons (ps_if (PW.pt (pw_or (pt_not (pt_val (pe_call GI hr (by rfl) gI kI bI .nil pass0 (pa_cons (pv 1) pa_nil)))) (pw_or1 (pt_cmpR op_eq (pv 1) pe_int (nomark _))))) (pss_one (ps_ret (lit_lst (lits_cons lit_str (lits_cons lit_int (lits_cons lit_bl (lits_cons lit_bl lits_nil))))))) pss_nil)
    (pss_one (ps_ret (pe_call GF hr (by rfl) gF kF bF .nil pass0 (pa_cons (pv 0) (pa_cons (pv 1) pa_nil)))))), ?_⟩
  refine ⟨_, rfl, x, d, rfl, hx, _, rfl, ?_⟩
  cases eX : isI d with
  | false =>
    rw [frR_0 eX] at q
    exact iteT fun v H' s f => q v H' s f.dat
  | true =>
    obtain ⟨m, rfl, rfl⟩ := isI_int hx eX
    refine iteF ⟨_, rfl, y, e, rfl, hy, _, rfl, ?_⟩
    cases eY : isI e with
    | false =>
      rw [frR_1 eY] at q
      exact iteT (iteT fun v H' s f => q v H' s f.dat)
    | true =>
      obtain ⟨n, rfl, rfl⟩ := isI_int hy eY
      refine iteF ⟨_, rfl, rfl, _, rfl, ?_⟩
      by_cases hn : n = 0
      · subst hn
        rw [frR_z] at q
        rw [decide_eq_true rfl]
        exact iteT fun v H' s f => q v H' s f.dat
      · rw [decide_eq_false (fun z => hn (V.int.inj z))]
        rw [frR_2 hn] at q
        exact iteF ⟨_, rfl, _, rfl, m, n, rfl, hn, fit n rfl, fun p np => q _ _ (same_new np) (dq_two upd_same)⟩
theorem ok_lif {f fI fF : Addr} {fd fdI fdF : FuncData} (F : Fun K "_law_is_fraction" "_law_is_fraction" sLif f fd) (mi : mg "isinstance" = none) (mt : mg "tuple" = none) (ml : mg "len" = none)
    (gI : mg "_law_is_integer" = some (.ref fI)) (kI : PySem.W.keepIn K (.ref fI) = true) (bI : Binds K fdI ["_law_value"] []) (GI : FnOk P w K mg base CX0 1 fI fdI ["_law_value"] (spWhole K))
    (gF : mg "_law_frac" = some (.ref fF)) (kF : PySem.W.keepIn K (.ref fF) = true) (bF : Binds K fdF ["_law_above", "_law_below"] []) (GF : FnOk P w K mg base CX0 1 fF fdF ["_law_above", "_law_below"] spFrac) :
    FnOk P w K mg base CX0 2 f fd ["_law_value"] (spLif K) := by
  refine F.ok scLif (fun vs H Q E h => ?_) (fun cdv A outer s H vs Q E hr h => ?_)
  · obtain ⟨v, d, rfl, _⟩ := h
    rfl
  obtain ⟨v, d, rfl, hd, fit, q⟩ := h
  refine ⟨_, pss_cons (ps_if (PW.pt (pw_or (pt_not (pt_val (is_dat (T := "tuple") mi (pv 0) mt (by decide +kernel)))) (pw_or1 (pt_cmpR op_ne (pe_callB call_len_seq (by rfl) ml PySem.boot_len (pa_cons (pv 0) pa_nil)) pe_int (nomark _))))) (pss_one (ps_ret pe_bl)) pss_nil)
    (pss_cons (ps_if (PW.pt (pw_or (pt_not (pt_val (pe_call GI hr (by rfl) gI kI bI .nil pass0 (pa_cons (pe_ix ix_tup (pv 0) pe_int (fun _ _ => rfl)) pa_nil)))) (pw_or (pt_not (pt_val (pe_call GI hr (by rfl) gI kI bI .nil pass0 (pa_cons (pe_ix ix_tup (pv 0) pe_int (fun _ _ => rfl)) pa_nil)))) (pw_or1 (pt_cmpR op_lt (pe_ix ix_tup (pv 0) pe_int (fun _ _ => rfl)) pe_int (nomark _)))))) (pss_one (ps_ret pe_bl)) pss_nil)
    (pss_one (ps_ret (pe_cmpR (op_eqD hr.units) (pe_call GF hr (by rfl) gF kF bF .nil pass0 (pa_cons (pe_ix ix_tup (pv 0) pe_int (fun _ _ => rfl)) (pa_cons (pe_ix ix_tup (pv 0) pe_int (fun _ _ => rfl)) pa_nil))) (pv 0) (nomark _))))), ?_⟩
  refine ⟨v, rfl, d, _, hd, kit_tuple d, _, rfl, ?_⟩
  cases eT : isT d with
  | false =>
    rw [isF_no eT] at q
    exact iteT (iteT (q H (Same.refl _)))
  | true =>
    obtain ⟨a, xs, ds, rfl, rfl, hs, hA⟩ := isT_tup hd eT
    refine iteF ⟨_, rfl, a, xs, rfl, .inr hs, rfl, _, rfl, ?_⟩
    by_cases hl : xs.length = 2
    · rw [decide_eq_true (show V.int (xs.length : Int) = V.int 2 by rw [hl]; rfl)]
      obtain ⟨x, y, dx, dy, rfl, rfl, hx, hy⟩ := two_of hA hl
      refine iteF ?_
      refine ⟨_, rfl, a, [x, y], 0, x, rfl, rfl, hs, atI_nat (j := 0) rfl, x, dx, rfl, hx, _, rfl, ?_⟩
      cases eX : isI dx with
      | false =>
        rw [isF_two (by rw [eX]; rfl)] at q
        exact iteT (iteT (q H (Same.refl _)))
      | true =>
        refine iteF ⟨_, rfl, a, [x, y], 1, y, rfl, rfl, hs, atI_nat (j := 1) rfl, y, dy, rfl, hy, _, rfl, ?_⟩
        cases eY : isI dy with
        | false =>
          rw [isF_two (by rw [eX, eY]; rfl)] at q
          exact iteT (iteT (q H (Same.refl _)))
        | true =>
          obtain ⟨m, rfl, rfl⟩ := isI_int hx eX
          obtain ⟨n, rfl, rfl⟩ := isI_int hy eY
          have q' : ∀ H', Same H H' → Q (.bl (decide (1 ≤ n) && decide (Int.gcd m n = 1))) H' := q
          refine iteF ⟨_, rfl, a, _, 1, _, rfl, rfl, hs, atI_nat (j := 1) rfl, _, _, rfl, rfl, _, rfl, ?_⟩
          by_cases h1 : (1 : Int) ≤ n
          · rw [decide_eq_false (show ¬ n < 1 by omega)]
            refine iteF ⟨_, rfl, a, _, 0, _, rfl, rfl, hs, atI_nat (j := 0) rfl, _, rfl, a, _, 1, _, rfl, rfl, hs, atI_nat (j := 1) rfl, m, n, rfl, by omega, fit m n rfl, fun p np => ?_⟩
            have sp := same_new (o := .tup [.int (lo m n).1, .int (lo m n).2]) np
            refine ⟨_, rfl, .tuple [.int (lo m n).1, .int (lo m n).2], .tuple [.int m, .int n], .tup (.inl (.inl upd_same)) (.cons (.int _) (.cons (.int _) .nil)), .tup (Same.seqT sp hs) (.cons (.int _) (.cons (.int _) .nil)), shaped_two _ _, shaped_two _ _, ?_⟩
            have z := q' _ sp
            rw [decide_eq_true h1, Bool.true_and] at z
            rw [eqv_two]
            have e : (decide ((lo m n).1 = m) && decide ((lo m n).2 = n)) = decide (Int.gcd m n = 1) := by
              rw [← Bool.decide_and]
              exact decide_eq_decide.mpr ⟨fun h => (lo_self h1).mp (Prod.ext h.1 h.2), fun h => ⟨congrArg Prod.fst ((lo_self h1).mpr h), congrArg Prod.snd ((lo_self h1).mpr h)⟩⟩
            rw [e]
            exact z
          · rw [decide_eq_true (show n < 1 by omega)]
            have z := q' H (Same.refl _)
            rw [decide_eq_false h1, Bool.false_and] at z
            exact iteT z
    · rw [decide_eq_false (fun z => hl (by have := V.int.inj z; omega))]
      rw [isF_len (by rw [← hA.length]; exact hl)] at q
      exact iteT (q H (Same.refl _))
end
end K01

set_option Elab.async false
set_option linter.all false
set_option maxRecDepth 100000
set_option maxHeartbeats 4000000
namespace K01
open PySem PySem.Spec PyProof.Rows L2 LL
abbrev sMade : Stmt := topS 17
theorem scFr : FnScope ["top", "bottom", "divisor"] ["top", "bottom"] (defScope sFr) := ⟨rfl, rfl, rfl, by decide +kernel, rfl, by decide +kernel, by decide +kernel⟩
theorem scMade : FnScope ["_law_one_here", "_law_other", "_law_way", "_law_found", "error"] ["_law_one_here", "_law_other", "_law_way"] (defScope sMade) := ⟨rfl, rfl, rfl, by decide +kernel, rfl, by decide +kernel, by decide +kernel⟩
/-- fraction(x, y): the pair, or an error of the class at C with its place -/
def spFr (K : PySem.W.Frag) (C : Addr) : Sp := fun vs H Q E => ∃ (x y : V) (d e : PyData), vs = [x, y] ∧ Dq K H x d ∧ Dq K H y e ∧ FitI e ∧
  (∀ k, frR d e = .inl k → ∀ a, H a = none → E (.ref C) (some a) (upd H a (.xd [(("place" : Str), .int k)]))) ∧ (∀ r, frR d e = .inr r → ∀ p, H p = none → Q (.ref p) (upd H p (.tup [.int r.1, .int r.2])))
abbrev FrD (K : PySem.W.Frag) (f : Addr) (fd : FuncData) : Prop := FunD K "fraction" "fraction" (defArgs sFr) (defBody sFr) (defScope sFr) [V.int 1] [] f fd
section
variable {P : Program} {w : World} {K : PySem.W.Frag} {mg : Str → Option Value} {base : Heap} {C : Addr}
theorem ok_fr {f fW fC : Addr} {fd fdW fdC : FuncData} (F : FrD K f fd) (T : Er1 K mg "BadFraction" "place" C) (rs1 : PySem.W.subIn K (.ref C) (.type "BaseException") = some true) (rs2 : PySem.W.typeIn K (.ref C) = some (.type "type"))
    (gW : mg "is_whole_number" = some (.ref fW)) (kW : PySem.W.keepIn K (.ref fW) = true) (bW : Binds K fdW ["value"] []) (GW : FnOk P w K mg base CX0 1 fW fdW ["value"] (spWhole K))
    (gC : mg "common_divisor" = some (.ref fC)) (kC : PySem.W.keepIn K (.ref fC) = true) (bC : Binds K fdC ["one", "other"] []) (GC : FnOk P w K mg base CX0 1 fC fdC ["one", "other"] spCd) :
    FnOk P w K mg base (L2.CX P w) 3 f fd ["top", "bottom"] (spFr K C) := by
  refine F.ok scFr (fun vs H Q E h => ?_) (fun cdv A outer s H vs Q E hr h => ?_)
  · obtain ⟨x, y, d, e, rfl, _⟩ := h
    rfl
  obtain ⟨x, y, d, e, rfl, hx, hy, fit, qE, qQ⟩ := h
  have hr1 : Room 1 _ := hr.mono (by decide)
  refine ⟨_, pss_cons (ps_if (pt_not (pt_val (pe_call GW hr1 (by rfl) gW kW bW .nil pass0 (pa_cons (pv 0) pa_nil)))) (pss_one (ps_raise rfl (takes_of rfl rfl rfl rfl) (pmk_er1 T (raises_own rs1 rs2) hr (pa_cons pe_int pa_nil)))) pss_nil)
    (pss_cons (ps_if (PW.pt (pw_or (pt_not (pt_val (pe_call GW hr1 (by rfl) gW kW bW .nil pass0 (pa_cons (pv 1) pa_nil)))) (pw_or1 (pt_cmpR op_eq (pv 1) pe_int (nomark _))))) (pss_one (ps_raise rfl (takes_of rfl rfl rfl rfl) (pmk_er1 T (raises_own rs1 rs2) hr (pa_cons pe_int pa_nil)))) pss_nil)
    (pss_cons (ps_set (i := 2) scFr.nd rfl (.inl rfl) (pe_call GC hr1 (by rfl) gC kC bC .nil pass0 (pa_cons (pv 0) (pa_cons (pv 1) pa_nil))))
    (pss_cons (ps_if (pt_cmpR op_lt (pv 1) pe_int (nomark _)) (pss_one (ps_set (i := 2) scFr.nd rfl (.inl rfl) (pe_un un_neg (pv 2)))) pss_nil)
    (pss_one (ps_ret (pe_tup (pa_cons (pe_op op_fdivZ (pv 0) (pv 2)) (pa_cons (pe_op op_fdivZ (pv 1) (pv 2)) pa_nil)))))))), ?_⟩
  refine ⟨_, rfl, x, d, rfl, hx, _, rfl, ?_⟩
  cases eX : isI d with
  | false => exact iteT ⟨_, rfl, fun a na => qE 0 (frR_0 eX) a na⟩
  | true =>
    obtain ⟨m, rfl, rfl⟩ := isI_int hx eX
    refine iteF ⟨_, rfl, y, e, rfl, hy, _, rfl, ?_⟩
    cases eY : isI e with
    | false => exact iteT (iteT ⟨_, rfl, fun a na => qE 1 (frR_1 eY) a na⟩)
    | true =>
      obtain ⟨n, rfl, rfl⟩ := isI_int hy eY
      refine iteF ⟨_, rfl, rfl, _, rfl, ?_⟩
      by_cases hn : n = 0
      · subst hn
        rw [decide_eq_true rfl]
        exact iteT ⟨_, rfl, fun a na => qE 1 frR_z a na⟩
      · rw [decide_eq_false (fun z => hn (V.int.inj z))]
        refine iteF ⟨_, rfl, _, rfl, m, n, rfl, ?_⟩
        have g := gcd_pos m n hn
        have lg : (Int.gcd m n : Int).natAbs < 2 ^ 200 := by
          have h1 := gcd_le m n hn
          have h2 : n.natAbs < 2 ^ 200 := fit n rfl
          omega
        have fin : ∀ dv : Int, (m.fdiv dv, n.fdiv dv) = lo m n → ∀ p, H p = none → Q (.ref p) (upd H p (.tup [.int (m.fdiv dv), .int (n.fdiv dv)])) := by
          intro dv ed p np
          have e1 : m.fdiv dv = (lo m n).1 := congrArg Prod.fst ed
          have e2 : n.fdiv dv = (lo m n).2 := congrArg Prod.snd ed
          rw [e1, e2]
          exact qQ _ (frR_2 hn) p np
        refine ⟨_, rfl, _, _, rfl, rfl, _, rfl, ite2 (fun c1 => ?_) (fun c1 => ?_)⟩
        · have c2 : n < 0 := of_decide_eq_true c1
          have l2 : (-(Int.gcd m n : Int)).natAbs.log2 < 9000 := bd_log (by show (-(Int.gcd m n : Int)).natAbs < 2 ^ 200; omega)
          refine ⟨_, rfl, _, rfl, _, rfl, _, rfl, _, _, rfl, rfl, ⟨by omega, l2⟩, _, rfl, _, rfl, _, _, rfl, rfl, ⟨by omega, l2⟩, (by show 2 ≤ sizeLine; decide), fun p np => ?_⟩
          exact fin _ (lo_neg c2) p np
        · have c2 : ¬ n < 0 := of_decide_eq_false (by simpa using c1)
          refine ⟨_, rfl, _, rfl, _, _, rfl, rfl, ⟨by omega, bd_log lg⟩, _, rfl, _, rfl, _, _, rfl, rfl, ⟨by omega, bd_log lg⟩, (by show 2 ≤ sizeLine; decide), fun p np => ?_⟩
          exact fin _ (lo_pos (by omega)) p np
/-- how fraction binds -/
theorem fr_two {f : Addr} {fd : FuncData} (F : FrD K f fd) : Binds K fd ["top", "bottom"] [] := by
  obtain ⟨ds, r, b⟩ := F.binds1 (ps := ["top", "bottom"]) 2 1 (fun z => by cases z) rfl fun T kV doc pm an cdv ct us its hu hi => by
    match us, hu, its, hi with
    | [u1, u2], _, [i1], _ => exact ⟨_, rfl, rfl⟩
  cases r
  exact b
theorem fr_one {f : Addr} {fd : FuncData} (F : FrD K f fd) : ∃ ds, Vals [V.int 1] ds ∧ Binds K fd ["top", "bottom"] ds :=
  F.binds1 (ps := ["top", "bottom"]) 1 0 (fun z => by cases z) rfl fun T kV doc pm an cdv ct us its hu hi => by
    match us, hu, its, hi with
    | [u1], _, [i1], _ => exact ⟨_, rfl, rfl⟩
theorem fr_kw {f : Addr} {fd : FuncData} (F : FrD K f fd) (s : Shared) (ws : List Value) (X : K.In s.heap) (hl : ws.length = (["bottom", "top"] : List Str).length) : BindsTo s fd ⟨[], (["bottom", "top"] : List Str).zip ws⟩ ((["top", "bottom"] : List Str).zip ws.reverse) := by
  obtain ⟨oc, od, dV, kV, doc, pm, an, cdv, ct, osl, rfl, lk, hcd, hD, hK⟩ := F.ex
  rcases hD with ⟨e, _⟩ | ⟨_, T, o, its, m, rfl, lT, oT, rT⟩
  · cases e
  · match ws, hl, its, rT.length.symm, oT with
    | [w1, w2], _, [i1], _, oT =>
      have e1 : ∃ k, bindArgs (PySem.W.fnOf "fraction" "fraction" (defArgs sFr) (defBody sFr) (defScope sFr) (.ref T) kV doc pm an cdv ct) ⟨[], (["bottom", "top"] : List Str).zip [w1, w2]⟩ = seqItems? (.ref T) >>= k ∧ k (some [i1].toArray) = pure ((["top", "bottom"] : List Str).zip [w1, w2].reverse) := ⟨_, rfl, rfl⟩
      obtain ⟨k, e1, e2⟩ := e1
      refine BindsTo.of_looks fun M => ?_
      rw [e1]
      exact looks_items X lT oT (.of_pure e2)
end
end K01

set_option Elab.async false
set_option linter.all false
set_option maxRecDepth 100000
set_option maxHeartbeats 4000000
namespace K01
open PySem PySem.Spec PyProof.Rows L2 LL
theorem vals_rev : ∀ {vs : List V} {us : List Value}, Vals vs us → Vals vs.reverse us.reverse
  | _, _, .nil => .nil
  | _, _, .cons r t => by
    rw [List.reverse_cons, List.reverse_cons]
    exact (vals_rev t).append (.cons r .nil)
def spMade (K : PySem.W.Frag) : Sp := fun vs H Q _ => ∃ (x y : V) (d e : PyData) (k : Int), vs = [x, y, .int k] ∧ 0 ≤ k ∧ k < 3 ∧ Dq K H x d ∧ Dq K H y e ∧ FitI e ∧ ∀ v H', Same H H' → Dq K H' v (resD (frR d (if k < 2 then e else .int 1))) → Q v H'
section
variable {P : Program} {w : World} {K : PySem.W.Frag} {mg : Str → Option Value} {base : Heap} {C CP : Addr}
theorem ok_made {f fF : Addr} {fd fdF : FuncData} (F : Fun K "_law_made" "_law_made" sMade f fd) (FD : FrD K fF fdF) (gF : mg "fraction" = some (.ref fF)) (GF : FnOk P w K mg base (L2.CX P w) 3 fF fdF ["top", "bottom"] (spFr K C))
    (T : Er1 K mg "BadFraction" "place" C) (ec : ErC K C) (cg : ClG K) (te : PySem.W.exmOne K (.ref C) (.ref C) = some true) (kP : PySem.W.kitOne K (.ref C) (.ref CP) = some true) (kV : PySem.W.kitOne K (.ref C) (.type "ValueError") = some true)
    (gP : mg "PlanError" = some (.ref CP)) (mi : mg "isinstance" = none) (mv : mg "ValueError" = none) : FnOk P w K mg base CX0 4 f fd ["_law_one_here", "_law_other", "_law_way"] (spMade K) := by
  obtain ⟨ds, rds, bd1⟩ := fr_one FD
  have bd2 := fr_two FD
  refine F.ok scMade (fun vs H Q E h => ?_) (fun cdv A outer s H vs Q E hr h => ?_)
  · obtain ⟨x, y, d, e, k, rfl, _⟩ := h
    rfl
  obtain ⟨x, y, d, e, k, rfl, k0, k3, hx, hy, fit, q⟩ := h
  have xf : XfC K C := ⟨ec.ga, ec.gg, ec.sub, ec.hd⟩
  refine ⟨_, pss_cons (ps_set (i := 3) scMade.nd rfl (.inl rfl) pe_non)
    (pss_cons (ps_try_as (i := 4) (Wout := fun _ _ _ _ => False)
        (tb := fun W => tIfS (tTest (tOp rEq (tVar 2) (tC (.int 0)))) (tAsg (tCallS (spFr K C) (WE W) (tCons (tVar 0) (tCons (tVar 1) tNil))) (gName 3))
          (tIfS (tTest (tOp rEq (tVar 2) (tC (.int 1)))) (tAsg (tCallKS (spFr K C) List.reverse (WE W) 2 (tCons (tVar 1) (tCons (tVar 0) tNil))) (gName 3)) (tAsg (tCallSD (spFr K C) [V.int 1] (WE W) (tCons (tVar 0) tNil)) (gName 3))))
        (ts := fun a cls d => tAsg (tLst (tCons (tC (.str "bad")) (tCons (tXf a cls d C "place" (tVar 4)) (tCons (tCB (rIsS K C a cls d) (tCons (tVar 4) (tCons (tC (.ref CP)) tNil))) (tCons (tCB (rIsS K C a cls d) (tCons (tVar 4) (tCons (tC (.ty "ValueError")) tNil))) tNil))))) (gName 3))
        rfl rfl scMade.nd rfl rfl ⟨rfl, by decide, .inl T.gC⟩ takes0
        (fun W pn xe tk _ => pss_one (ps_if (pt_cmpR op_eq (pv 2) pe_int (nomark _))
          (pss_one (ps_set (i := 3) scMade.nd rfl (.inl rfl) (by exact (pe_callS GF hr rfl gF FD.kp bd2 (fun σ => passAt tk σ) (by exact (pa_cons (pv 0) (pa_cons (pv 1) pa_nil)))))))
          (pss_one (ps_if (pt_cmpR op_eq (pv 2) pe_int (nomark _))
            (pss_one (ps_set (i := 3) scMade.nd rfl (.inl rfl) (by exact (pe_callKS (ks := ["bottom", "top"]) (g := List.reverse) (gV := List.reverse) GF hr rfl gF FD.kp (fun s ws X hl => fr_kw FD s ws X hl) (fun r => vals_rev r) (fun σ => passAt tk σ) (by exact (pk_cons (pv 1) (pk_cons (pv 0) pk_nil)))))))
            (pss_one (ps_set (i := 3) scMade.nd rfl (.inl rfl) (by exact (pe_callSD GF hr rfl gF FD.kp bd1 rds (fun σ => passAt tk σ) (by exact (pa_cons (pv 0) pa_nil))))))))))
        (fun a oe cls d pn hz hf => pss_one (ps_set (i := 3) scMade.nd rfl (.inl rfl) (by exact (pe_lst (pa_cons pe_str (pa_cons (pe_xf xf T.no hz hf (pv 4))
          (pa_cons (pe_callB (call_isS ec cg hz hf) (by rfl) mi (by decide +kernel) (pa_cons (pv 4) (pa_cons (pe_glob (v := .ref CP) (by rfl) gP rfl) pa_nil)))
          (pa_cons (pe_callB (call_isS ec cg hz hf) (by rfl) mi (by decide +kernel) (pa_cons (pv 4) (pa_cons (pe_bltn (v := .ty "ValueError") (by rfl) mv (by decide +kernel) rfl) pa_nil))) pa_nil)))))))))
    (pss_one (ps_ret (pv 3)))), ?_⟩
  have lookP : ∀ z : V, List.lookup ("place" : Str) [(("place" : Str), z)] = some z := fun z => by rw [lookup_put, if_pos rfl]
  refine ⟨_, rfl, rfl, _, rfl, ?_⟩
  by_cases c0 : k = 0
  · rw [decide_eq_true (show V.int k = V.int 0 by rw [c0])]
    have ee : (if k < 2 then e else .int 1) = e := if_pos (by omega)
    refine iteT ?_
    refine ⟨_, rfl, _, rfl, x, y, d, e, rfl, hx, hy, fit, ?_, ?_⟩
    · intro kk hk a' na
      refine ⟨true, te, fun _ a _ => ?_, fun z => Bool.noConfusion z⟩
      refine ⟨_, rfl, rfl, rfl, a', _, .int kk, rfl, upd_same, lookP _, _, rfl, .ref CP, .ref CP, true, a', _, rfl, rfl, .own _, rfl, upd_same, kP, _, rfl, .ty "ValueError", .type "ValueError", true, a', _, rfl, rfl, .ty _, rfl, upd_same, kV, (by show 4 ≤ sizeLine; decide), fun p np => ?_⟩
      refine ⟨_, rfl, q _ _ ((same_new na).trans (same_new np)) ?_⟩
      rw [ee, hk]
      exact .lst (.inl (.inl upd_same)) (.cons (.str _) (.cons (.int _) (.cons (.bl _) (.cons (.bl _) .nil))))
    · intro r hr2 p np
      refine ⟨_, rfl, q _ _ (same_new np) ?_⟩
      rw [ee, hr2]
      exact dq_two upd_same
  · rw [decide_eq_false (fun z => c0 (V.int.inj z))]
    refine iteF ⟨_, rfl, rfl, _, rfl, ?_⟩
    by_cases c1 : k = 1
    · rw [decide_eq_true (show V.int k = V.int 1 by rw [c1])]
      have ee : (if k < 2 then e else .int 1) = e := if_pos (by omega)
      refine iteT ?_
      refine ⟨_, rfl, _, rfl, rfl, x, y, d, e, rfl, hx, hy, fit, ?_, ?_⟩
      · intro kk hk a' na
        refine ⟨true, te, fun _ a _ => ?_, fun z => Bool.noConfusion z⟩
        refine ⟨_, rfl, rfl, rfl, a', _, .int kk, rfl, upd_same, lookP _, _, rfl, .ref CP, .ref CP, true, a', _, rfl, rfl, .own _, rfl, upd_same, kP, _, rfl, .ty "ValueError", .type "ValueError", true, a', _, rfl, rfl, .ty _, rfl, upd_same, kV, (by show 4 ≤ sizeLine; decide), fun p np => ?_⟩
        refine ⟨_, rfl, q _ _ ((same_new na).trans (same_new np)) ?_⟩
        rw [ee, hk]
        exact .lst (.inl (.inl upd_same)) (.cons (.str _) (.cons (.int _) (.cons (.bl _) (.cons (.bl _) .nil))))
      · intro r hr2 p np
        refine ⟨_, rfl, q _ _ (same_new np) ?_⟩
        rw [ee, hr2]
        exact dq_two upd_same
    · rw [decide_eq_false (fun z => c1 (V.int.inj z))]
      have ee : (if k < 2 then e else .int 1) = .int 1 := if_neg (by omega)
      refine iteF ?_
      refine ⟨_, rfl, x, .int 1, d, .int 1, rfl, hx, .int 1, fun i z => by cases z; decide, ?_, ?_⟩
      · intro kk hk a' na
        refine ⟨true, te, fun _ a _ => ?_, fun z => Bool.noConfusion z⟩
        refine ⟨_, rfl, rfl, rfl, a', _, .int kk, rfl, upd_same, lookP _, _, rfl, .ref CP, .ref CP, true, a', _, rfl, rfl, .own _, rfl, upd_same, kP, _, rfl, .ty "ValueError", .type "ValueError", true, a', _, rfl, rfl, .ty _, rfl, upd_same, kV, (by show 4 ≤ sizeLine; decide), fun p np => ?_⟩
        refine ⟨_, rfl, q _ _ ((same_new na).trans (same_new np)) ?_⟩
        rw [ee, hk]
        exact .lst (.inl (.inl upd_same)) (.cons (.str _) (.cons (.int _) (.cons (.bl _) (.cons (.bl _) .nil))))
      · intro r hr2 p np
        refine ⟨_, rfl, q _ _ (same_new np) ?_⟩
        rw [ee, hr2]
        exact dq_two upd_same
end
end K01

set_option Elab.async false
set_option linter.all false
set_option maxRecDepth 100000
set_option maxHeartbeats 4000000
namespace K01
open PySem PySem.Spec PyProof.Rows L2 LL
abbrev sNear : Stmt := topS 19
theorem scNear : FnScope ["_law_found", "_law_up", "_law_low", "_law_some"] ["_law_found"] (defScope sNear) := ⟨rfl, rfl, rfl, by decide +kernel, rfl, by decide +kernel, by decide +kernel⟩
/-- the slots and the heap while near's values are made; b: a thing that they share nothing with -/
structure Ctx (b : Addr) (σ : L2.St) (H : Hp) (u l : Int) (p : Addr) : Prop where
  s0 : σ[0]? = some (some (.ref p))
  s1 : σ[1]? = some (some (.int u))
  s2 : σ[2]? = some (some (.int l))
  ne : p ≠ b
  at_ : H p = some (.tup [.int u, .int l])
  hb : H b ≠ none
  lg : u.natAbs.log2 < 1920
theorem Ctx.up {b : Addr} {σ : L2.St} {H H' : Hp} {u l : Int} {p : Addr} (c : Ctx b σ H u l p) (s : Same H H') : Ctx b σ H' u l p :=
  ⟨c.s0, c.s1, c.s2, c.ne, s _ _ c.at_, fun z => c.hb (s.free z), c.lg⟩
theorem Ctx.new {b : Addr} {σ : L2.St} {H : Hp} {u l : Int} {p q : Addr} (c : Ctx b σ H u l p) (n : H q = none) : q ≠ b := fun z => c.hb (by rw [← z]; exact n)
def tN (K : PySem.W.Frag) (b : Addr) (d : Int → Int → PyData) : TE := fun σ H Q => ∃ u l p, Ctx b σ H u l p ∧ ∀ v H', Same H H' → Dq K (wo H' b) v (d u l) → Q v H'
def tNs (K : PySem.W.Frag) (b : Addr) (d : Int → Int → List PyData) : TA := fun σ H Q => ∃ u l p, Ctx b σ H u l p ∧ ∀ v H', Same H H' → DqAll K (wo H' b) v (d u l) → Q v H'
def tNL (K : PySem.W.Frag) (b : Addr) (d : Int → Int → List PyData) : TE := fun σ H Q => ∃ u l p, Ctx b σ H u l p ∧ ∀ q v H', Same H H' → H q = none → H' q = some (.lst v) → DqAll K (wo H' b) v (d u l) → Q (.ref q) H'
section
variable {X : Cx} {e : Expr} {es : List Expr} {b : Addr} {d : Int → Int → PyData} {ds : Int → Int → List PyData} {pos : Pos}
theorem n_lit {c : PyData} (h : PE X e (tLit X.K c)) : PE X e (tN X.K b fun _ _ => c) := imp h fun σ H Q ⟨u, l, p, C, q⟩ v H' s f => q v H' s (f.sep b C.hb)
theorem n_int {t : TE} (g : Int → Int → Int) (h : PE X e t) (w : ∀ (σ : L2.St) (H : Hp) (Q : VK) (u l : Int), σ[1]? = some (some (.int u)) → σ[2]? = some (some (.int l)) → u.natAbs.log2 < 1920 → Q (.int (g u l)) H → t σ H Q) : PE X e (tN X.K b fun u l => .int (g u l)) :=
  imp h fun σ H Q ⟨u, l, p, C, q⟩ => w σ H Q u l C.s1 C.s2 C.lg (q _ _ (Same.refl _) (.int _))
theorem n_bl {t : TE} (g : Int → Int → Bool) (h : PE X e t) (w : ∀ (σ : L2.St) (H : Hp) (Q : VK) (u l : Int), σ[1]? = some (some (.int u)) → σ[2]? = some (some (.int l)) → Q (.bl (g u l)) H → t σ H Q) : PE X e (tN X.K b fun u l => .bool (g u l)) :=
  imp h fun σ H Q ⟨u, l, p, C, q⟩ => w σ H Q u l C.s1 C.s2 (q _ _ (Same.refl _) (.bl _))
theorem n_str {t : TE} (g : Int → Int → Str) (h : PE X e t) (w : ∀ (σ : L2.St) (H : Hp) (Q : VK) (u l : Int), σ[1]? = some (some (.int u)) → σ[2]? = some (some (.int l)) → u.natAbs.log2 < 1920 → Q (.str (g u l)) H → t σ H Q) : PE X e (tN X.K b fun u l => .str (g u l)) :=
  imp h fun σ H Q ⟨u, l, p, C, q⟩ => w σ H Q u l C.s1 C.s2 C.lg (q _ _ (Same.refl _) (.str _))
theorem n_found (h : PE X e (tVar 0)) : PE X e (tN X.K b fun u l => .tuple [.int u, .int l]) :=
  imp h fun σ H Q ⟨u, l, p, C, q⟩ => ⟨_, C.s0, q _ _ (Same.refl _) (dq_two (wo_at C.at_ C.ne))⟩
theorem n_up (h : PE X e (tVar 1)) : PE X e (tN X.K b fun u _ => .int u) := n_int (fun u _ => u) h fun σ H Q u l h1 h2 _ q => ⟨_, h1, q⟩
theorem n_low (h : PE X e (tVar 2)) : PE X e (tN X.K b fun _ l => .int l) := n_int (fun _ l => l) h fun σ H Q u l h1 h2 _ q => ⟨_, h2, q⟩
theorem ns_nil : PA X [] (tNs X.K b fun _ _ => []) := impA pa_nil fun σ H Q ⟨u, l, p, C, q⟩ => q _ _ (Same.refl _) .nil
theorem ns_cons (h : PE X e (tN X.K b d)) (r : PA X es (tNs X.K b ds)) (hs : starEach (e :: es) X.env = (false, eval e X.env) :: starEach es X.env := by rfl) : PA X (e :: es) (tNs X.K b fun u l => d u l :: ds u l) :=
  impA (pa_cons h r hs) fun σ H Q ⟨u, l, p, C, q⟩ => ⟨u, l, p, C, fun v H1 s1 d1 => ⟨u, l, p, C.up s1, fun vs H2 s2 d2 => q _ _ (s1.trans s2) (.cons (d1.up (wo_up s2)) d2)⟩⟩
theorem n_tup {k : Nat} (h : PA X es (tNs X.K b ds)) (hl : ∀ u l, (ds u l).length ≤ 1000) : PE X (.Tuple es k pos) (tN X.K b fun u l => .tuple (ds u l)) :=
  imp (pe_tup h) fun σ H Q ⟨u, l, p, C, q⟩ => ⟨u, l, p, C, fun vs H1 s1 d1 => ⟨by rw [d1.length]; exact Nat.le_of_lt (small1000 (hl u l)), fun p' np => q _ _ (s1.trans (same_new np)) (.tup (.inl (.inl (wo_at upd_same ((C.up s1).new np)))) (d1.up (wo_up (same_new np))))⟩⟩
theorem n_lst (h : PA X es (tNs X.K b ds)) (hl : ∀ u l, (ds u l).length ≤ 1000) : PE X (.List es pos) (tN X.K b fun u l => .list (ds u l)) :=
  imp (pe_lst h) fun σ H Q ⟨u, l, p, C, q⟩ => ⟨u, l, p, C, fun vs H1 s1 d1 => ⟨by rw [d1.length]; exact Nat.le_of_lt (small1000 (hl u l)), fun p' np => q _ _ (s1.trans (same_new np)) (.lst (.inl (.inl (wo_at upd_same ((C.up s1).new np)))) (d1.up (wo_up (same_new np))))⟩⟩
theorem n_lstT (h : PA X es (tNs X.K b ds)) (hl : ∀ u l, (ds u l).length ≤ 1000) : PE X (.List es pos) (tNL X.K b ds) :=
  imp (pe_lst h) fun σ H Q ⟨u, l, p, C, q⟩ => ⟨u, l, p, C, fun vs H1 s1 d1 => ⟨by rw [d1.length]; exact Nat.le_of_lt (small1000 (hl u l)), fun p' np => q p' vs _ (s1.trans (same_new np)) (s1.free np) upd_same (d1.up (wo_up (same_new np)))⟩⟩
theorem n_dict {e1 e2 : Expr} (h1 : PE X e1 (tVar 1)) (h2 : PE X e2 (tVar 2)) : PE X (.Dict [some e1] [e2] pos) (tN X.K b fun u l => .dict [(.int u, .int l)]) :=
  imp (pe_disp (pps_cons h1 h2 pps_nil) (by rfl) (by rfl) (fun z => by cases z) (by show 1 ≤ 15; decide)) fun σ H Q ⟨u, l, p, C, q⟩ p' np =>
    ⟨_, C.s1, _, C.s2, upd_same, [(.inl u, .int l)], rfl, (by show 1 ≤ 15; decide), by
      rw [upd_upd]
      exact q _ _ (same_new np) (.dct (kvs := [(.inl u, .int l)]) (ds := [.int l]) (wo_at upd_same (C.new np)) (.cons (.int l) .nil))⟩
end
def near1 (u l : Int) : List PyData := [.tuple [.int u, .int l], .tuple [.int (2 * u), .int (2 * l)], .tuple [.int (0 - u), .int (0 - l)], .list [.int u, .int l], .tuple [.int u], .tuple [.int u, .int l, .int 1], .tuple [.int u, .int 0], .tuple [.bool (decide (V.int u = V.int 1)), .int l]]
def near2 (u l : Int) : List PyData := [.tuple [.int u, .bool (decide (V.int l = V.int 1))], .tuple [.str (toString u : String), .int l], .tuple [.int 0, .int l], .tuple [.int 0, .int 1], .tuple [.int u, .int 1], .int u, .tuple [.int l, .int u], .tuple [.int u, .none]]
def near3 (u l : Int) : List PyData := [.tuple [.tuple [.int u, .int l]], .tuple [.int (u + 1), .int l], .tuple [.int 0, .int 0], .tuple [.int 1, .int (0 - 1)], .dict [(.int u, .int l)]]
def nearD (u l : Int) : List PyData := (near1 u l ++ near2 u l) ++ near3 u l
def spNear (K : PySem.W.Frag) : Sp := fun vs H Q _ => ∃ (p b : Addr) (u l : Int), vs = [.ref p] ∧ H p = some (.tup [.int u, .int l]) ∧ p ≠ b ∧ H b ≠ none ∧ u.natAbs.log2 < 1920 ∧
  ∀ q v H', Same H H' → H q = none → H' q = some (.lst v) → DqAll K (wo H' b) v (nearD u l) → Q (.ref q) H'
section
variable {P : Program} {w : World} {K : PySem.W.Frag} {mg : Str → Option Value} {base : Heap}
theorem ok_near {f : Addr} {fd : FuncData} {k : Nat} (F : Fun K "_law_near" "_law_near" sNear f fd) (mstr : mg "str" = none) : FnOk P w K mg base CX0 (k + 1) f fd ["_law_found"] (spNear K) := by
  refine F.ok scNear (fun vs H Q E h => ?_) (fun cdv A outer s H vs Q E hr h => ?_)
  · obtain ⟨p, b, u, l, rfl, _⟩ := h
    rfl
  obtain ⟨p, b, u, l, rfl, hp, npb, hb, lg, q⟩ := h
  refine ⟨_, pss_cons (ps_asg (pv 0) (pg_tup (by rfl) (pgs_cons (pg_name (i := 1) scNear.nd rfl (.inl rfl)) (pgs_cons (pg_name (i := 2) scNear.nd rfl (.inl rfl)) pgs_nil))))
    (pss_cons (ps_set (i := 3) scNear.nd rfl (.inl rfl) (n_lstT (b := b) (ds := near1)
      (ns_cons (n_found (pv 0))
      (ns_cons (n_tup (ns_cons (n_int (fun u _ => 2 * u) (pe_op op_mul pe_int (pv 1)) fun σ H Q u l h1 h2 _ q => ⟨_, h1, 2, _, rfl, rfl, .inl ⟨by decide, by decide⟩, q⟩) (ns_cons (n_int (fun _ l => 2 * l) (pe_op op_mul pe_int (pv 2)) fun σ H Q u l h1 h2 _ q => ⟨_, h2, 2, _, rfl, rfl, .inl ⟨by decide, by decide⟩, q⟩) ns_nil)) (fun _ _ => by simp))
      (ns_cons (n_tup (ns_cons (n_int (fun u _ => 0 - u) (pe_op op_sub pe_int (pv 1)) fun σ H Q u l h1 h2 _ q => ⟨_, h1, 0, _, rfl, rfl, q⟩) (ns_cons (n_int (fun _ l => 0 - l) (pe_op op_sub pe_int (pv 2)) fun σ H Q u l h1 h2 _ q => ⟨_, h2, 0, _, rfl, rfl, q⟩) ns_nil)) (fun _ _ => by simp))
      (ns_cons (n_lst (ns_cons (n_up (pv 1)) (ns_cons (n_low (pv 2)) ns_nil)) (fun _ _ => by simp))
      (ns_cons (n_tup (ns_cons (n_up (pv 1)) ns_nil) (fun _ _ => by simp))
      (ns_cons (n_tup (ns_cons (n_up (pv 1)) (ns_cons (n_low (pv 2)) (ns_cons (n_lit lit_int) ns_nil))) (fun _ _ => by simp))
      (ns_cons (n_tup (ns_cons (n_up (pv 1)) (ns_cons (n_lit lit_int) ns_nil)) (fun _ _ => by simp))
      (ns_cons (n_tup (ns_cons (n_bl (fun u _ => decide (V.int u = V.int 1)) (pe_cmpR op_eq (pv 1) pe_int (nomark _)) fun σ H Q u l h1 h2 q => ⟨_, h1, rfl, q⟩) (ns_cons (n_low (pv 2)) ns_nil)) (fun _ _ => by simp)) ns_nil)))))))) (fun _ _ => by simp [near1])))
    (pss_cons (ps_set (i := 3) scNear.nd rfl (.inl rfl) (pe_op op_cat (pv 3) (n_lstT (b := b) (ds := near2)
      (ns_cons (n_tup (ns_cons (n_up (pv 1)) (ns_cons (n_bl (fun _ l => decide (V.int l = V.int 1)) (pe_cmpR op_eq (pv 2) pe_int (nomark _)) fun σ H Q u l h1 h2 q => ⟨_, h2, rfl, q⟩) ns_nil)) (fun _ _ => by simp))
      (ns_cons (n_tup (ns_cons (n_str (fun u _ => (toString u : String)) (pe_callTy call_str_int (by rfl) mstr (by decide +kernel) (pa_cons (pv 1) pa_nil)) fun σ H Q u l h1 h2 lg q => ⟨_, h1, u, rfl, lg, q⟩) (ns_cons (n_low (pv 2)) ns_nil)) (fun _ _ => by simp))
      (ns_cons (n_tup (ns_cons (n_lit lit_int) (ns_cons (n_low (pv 2)) ns_nil)) (fun _ _ => by simp))
      (ns_cons (n_lit (lit_tup (lits_cons lit_int (lits_cons lit_int lits_nil))))
      (ns_cons (n_tup (ns_cons (n_up (pv 1)) (ns_cons (n_lit lit_int) ns_nil)) (fun _ _ => by simp))
      (ns_cons (n_up (pv 1))
      (ns_cons (n_tup (ns_cons (n_low (pv 2)) (ns_cons (n_up (pv 1)) ns_nil)) (fun _ _ => by simp))
      (ns_cons (n_tup (ns_cons (n_up (pv 1)) (ns_cons (n_lit lit_non) ns_nil)) (fun _ _ => by simp)) ns_nil)))))))) (fun _ _ => by simp [near2]))))
    (pss_one (ps_ret (pe_op op_cat (pv 3) (n_lstT (b := b) (ds := near3)
      (ns_cons (n_tup (ns_cons (n_tup (ns_cons (n_up (pv 1)) (ns_cons (n_low (pv 2)) ns_nil)) (fun _ _ => by simp)) ns_nil) (fun _ _ => by simp))
      (ns_cons (n_tup (ns_cons (n_int (fun u _ => u + 1) (pe_op op_add (pv 1) pe_int) fun σ H Q u l h1 h2 _ q => ⟨_, h1, _, _, rfl, rfl, q⟩) (ns_cons (n_low (pv 2)) ns_nil)) (fun _ _ => by simp))
      (ns_cons (n_lit (lit_tup (lits_cons lit_int (lits_cons lit_int lits_nil))))
      (ns_cons (n_tup (ns_cons (n_lit lit_int) (ns_cons (n_int (fun _ _ => 0 - 1) (pe_op op_sub pe_int pe_int) fun σ H Q u l h1 h2 _ q => ⟨0, 1, rfl, rfl, q⟩) ns_nil)) (fun _ _ => by simp))
      (ns_cons (n_dict (pv 1) (pv 2)) ns_nil))))) (fun _ _ => by simp [near3]))))))), ?_⟩
  refine ⟨_, rfl, p, [.int u, .int l], rfl, .inl (.inl hp), rfl, .int u, [.int l], rfl, .int l, [], rfl, rfl, ?_⟩
  refine ⟨u, l, p, ⟨rfl, rfl, rfl, npb, hp, hb, lg⟩, fun p1 v1 H1 s1 n1 e1 d1 => ?_⟩
  have hp1 := s1 _ _ hp
  have hb1 : H1 b ≠ none := fun z => hb (s1.free z)
  refine ⟨_, rfl, u, l, p, ⟨rfl, rfl, rfl, npb, hp1, hb1, lg⟩, fun p2 v2 H2 s2 n2 e2 d2 => ?_⟩
  have l1 : v1.length = 8 := d1.length
  have l2 : v2.length = 8 := d2.length
  refine ⟨p1, p2, v1, v2, rfl, rfl, s2 _ _ e1, e2, (by rw [l1, l2]; decide), fun p3 n3 => ?_⟩
  have s3 := same_new (o := .lst (v1 ++ v2)) n3
  have hp3 := s3 _ _ (s2 _ _ hp1)
  have hb3 : upd H2 p3 (.lst (v1 ++ v2)) b ≠ none := fun z => hb1 ((s2.trans s3).free z)
  refine ⟨_, rfl, u, l, p, ⟨rfl, rfl, rfl, npb, hp3, hb3, lg⟩, fun p4 v4 H4 s4 n4 e4 d4 => ?_⟩
  have l4 : v4.length = 5 := d4.length
  refine ⟨p3, p4, v1 ++ v2, v4, rfl, rfl, s4 _ _ upd_same, e4, (by rw [List.length_append, l1, l2, l4]; decide), fun p5 n5 => ?_⟩
  have s5 := same_new (o := .lst ((v1 ++ v2) ++ v4)) n5
  have sA := (((s1.trans s2).trans s3).trans s4)
  refine q p5 _ _ (sA.trans s5) (sA.free n5) upd_same ?_
  exact (((d1.up (wo_up (((s2.trans s3).trans s4).trans s5))).append (d2.up (wo_up ((s3.trans s4).trans s5)))).append (d4.up (wo_up s5)))
end
end K01

set_option Elab.async false
set_option linter.all false
set_option maxRecDepth 100000
set_option maxHeartbeats 4000000
namespace LL
open PySem PySem.Spec PyProof.Rows L2
/-- data of a bounded text -/
def Sz (n : Nat) (d : PyData) : Prop := d.showable = true ∧ d.depth ≤ 10 ∧ d.shown.length ≤ n
theorem sz_depth {n : Nat} : ∀ ds : List PyData, (∀ d ∈ ds, Sz n d) → PyData.depthAll ds ≤ 10
  | [], _ => Nat.zero_le _
  | d :: ds, h => by
    have h1 := (h d List.mem_cons_self).2.1
    have h2 := sz_depth ds fun x hx => h x (List.mem_cons_of_mem _ hx)
    rw [PyData.depthAll]
    omega
theorem sz_sum {n : Nat} : ∀ ds : List PyData, (∀ d ∈ ds, Sz n d) → ((PyData.shownAll ds).map (·.length)).sum ≤ n * ds.length
  | [], _ => by rw [PyData.shownAll_nil]; exact Nat.zero_le _
  | d :: ds, h => by
    have h1 := (h d List.mem_cons_self).2.2
    have h2 := sz_sum ds fun x hx => h x (List.mem_cons_of_mem _ hx)
    rw [PyData.shownAll_cons, List.map_cons, List.sum_cons, List.length_cons, Nat.mul_add, Nat.mul_one]
    omega
theorem sz_list {n m : Nat} {ds : List PyData} (h : ∀ d ∈ ds, Sz n d) (hm : n * ds.length + 2 * ds.length + 3 ≤ m) : (PyData.list ds).showable = true ∧ (PyData.list ds).depth ≤ 11 ∧ (PyData.list ds).shown.length ≤ m := by
  refine ⟨?_, ?_, ?_⟩
  · rw [PyData.showable]
    exact PySem.Spec.showableAll_of fun x hx => (h x hx).1
  · have := sz_depth ds h
    rw [PyData.depth]
    omega
  · have h1 := sz_sum ds h
    have h2 := listText_len_le (PyData.shownAll ds)
    rw [PyData.shown_list, ← listText_eq_join]
    rw [PyData.shownAll_length] at h2
    omega
theorem sz_int {i : Int} (h : i.natAbs < 2 ^ 200) : Sz 250 (.int i) := by
  have lg : i.natAbs.log2 < 200 := PySem.Flt.log2_lt_of (by decide) h
  refine ⟨?_, ?_, ?_⟩
  · simp [PyData.showable]
    omega
  · rw [PyData.depth]
    omega
  · rw [PyData.shown_int, PySem.ofString_length]
    have := int_text_length_le (a := i) (k := 200) (by decide) lg
    omega
theorem sz_two {a b : Int} (ha : a.natAbs < 2 ^ 200) (hb : b.natAbs < 2 ^ 200) : Sz 1000 (.tuple [.int a, .int b]) := by
  have h : ∀ d ∈ [PyData.int a, .int b], Sz 250 d := by
    intro d hd
    rcases List.mem_cons.mp hd with rfl | hd
    · exact sz_int ha
    · rcases List.mem_cons.mp hd with rfl | hd
      · exact sz_int hb
      · cases hd
  refine ⟨?_, ?_, ?_⟩
  · rw [PyData.showable]
    exact PySem.Spec.showableAll_of fun x hx => (h x hx).1
  · have := sz_depth [PyData.int a, .int b] h
    simp [PyData.depth, PyData.depthAll]
  · have h1 := sz_sum _ h
    have h2 := tupleText_len_le (PyData.shownAll [PyData.int a, .int b])
    rw [PyData.shownAll_length] at h2
    have e : (PyData.tuple [.int a, .int b]).shown = tupleText (PyData.shownAll [PyData.int a, .int b]) := by simp only [PyData.shown]
    rw [e]
    have l : [PyData.int a, PyData.int b].length = 2 := rfl
    rw [l] at h1 h2
    omega
theorem ifpick {c : Bool} {σ : L2.St} {i : Nat} {v w : V} {H : Hp} {Q : VK} (hv : σ[i]? = some (some v)) (h : Q (if c = true then v else w) H) : if c = true then tVar i σ H Q else tC w σ H Q := by
  cases c with
  | true => exact iteT ⟨_, hv, h⟩
  | false => exact iteF h
end LL
namespace K01
open PySem PySem.Spec PyProof.Rows L2 LL
abbrev sLaw : Stmt := topS 20
abbrev lawN : List Str := ["_law_script", "_law_deck_here", "_law_turn", "_law_common", "_law_up", "_law_low", "_law_spoiled", "_law_way", "_law_due_here", "_law_found", "_law_number_here", "_law_value"]
theorem scLaw : FnScope lawN ["_law_script"] (defScope sLaw) := ⟨rfl, rfl, rfl, by decide +kernel, rfl, by decide +kernel, by decide +kernel⟩
def Good (d : PyData) : Prop := FitI d ∧ FitP d
theorem good_int {n : Int} (h : Bd n) : Good (.int n) := ⟨fun i e => by cases e; exact h, fun a b e => by cases e⟩
def goodB : PyData → Bool
  | .int i => decide (i.natAbs < 2 ^ 200)
  | .tuple [.int _, .int b] => decide (b.natAbs < 2 ^ 200)
  | _ => true
theorem good_of {d : PyData} (h : goodB d = true) : Good d := by
  refine ⟨fun i e => ?_, fun a b e => ?_⟩
  · subst e
    exact of_decide_eq_true h
  · subst e
    exact of_decide_eq_true h
theorem odd_good : ∀ d ∈ oddD, Good d := by
  have h : oddD.all goodB = true := by decide +kernel
  exact fun d hd => good_of (List.all_eq_true.mp h d hd)
theorem near_fit {u l : Int} (hu : u.natAbs < 2 ^ 180) (hl : l.natAbs < 2 ^ 180) : ∀ d ∈ nearD u l, FitP d := by
  have h : (nearD u l).all goodB = true ∨ True := .inr trivial
  intro d hd a b e
  subst e
  simp only [nearD, near1, near2, near3, List.cons_append, List.nil_append, List.mem_cons, List.not_mem_nil, or_false] at hd
  show b.natAbs < 2 ^ 200
  rcases hd with z | z | z | z | z | z | z | z | z | z | z | z | z | z | z | z | z | z | z | z | z
  all_goals first
    | (exfalso; cases z; done)
    | (injection z with z; injection z with z1 z; injection z with z2 z3; injection z2 with z2; subst z2; omega)
    | (injection z with z; injection z with z1 z; injection z with z2 z3; cases z2; done)
    | (injection z with z; injection z with z1 z; cases z; done)
    | (injection z with z; injection z with z1 z; injection z with z2 z3; cases z3; done)
/-- what comes of fraction is of a bounded text -/
theorem res_sz {d e : PyData} (hd : FitI d) (he : FitI e) : Sz 1000 (resD (frR d e)) := by
  have bad : ∀ k : Int, k = 0 ∨ k = 1 → Sz 1000 (resD (.inl k)) := by
    rintro k (rfl | rfl)
    · exact ⟨by decide +kernel, by decide +kernel, by decide +kernel⟩
    · exact ⟨by decide +kernel, by decide +kernel, by decide +kernel⟩
  by_cases h1 : isI d = true
  · cases d with
    | int a =>
      by_cases h2 : isI e = true
      · cases e with
        | int b =>
          by_cases h3 : b = 0
          · subst h3
            rw [frR_z]
            exact bad 1 (.inr rfl)
          · rw [frR_2 h3]
            have l := lo_abs (a := a) h3
            have ha : a.natAbs < 2 ^ 200 := hd a rfl
            have hb : b.natAbs < 2 ^ 200 := he b rfl
            exact sz_two (by omega) (by omega)
        | _ => cases h2
      · rw [frR_1 (by simpa using h2)]
        exact bad 1 (.inr rfl)
    | _ => cases h1
  · rw [frR_0 (by simpa using h1)]
    exact bad 0 (.inl rfl)
end K01

set_option Elab.async false
set_option linter.all false
set_option maxRecDepth 100000
set_option maxHeartbeats 4000000
namespace K01
open PySem PySem.Spec PyProof.Rows L2 LL
structure LT (K : PySem.W.Frag) (mg : Str → Option Value) (f : Nat → Addr) (d : Nat → FuncData) : Prop where
  g0 : mg "_law_deck" = some (.ref (f 0))
  g1 : mg "_law_take" = some (.ref (f 1))
  g2 : mg "_law_one" = some (.ref (f 2))
  g3 : mg "_law_number" = some (.ref (f 3))
  g4 : mg "_law_odd" = some (.ref (f 4))
  g5 : mg "_law_due" = some (.ref (f 5))
  g6 : mg "_law_made" = some (.ref (f 6))
  g7 : mg "_law_frac" = some (.ref (f 7))
  g8 : mg "_law_near" = some (.ref (f 8))
  g9 : mg "is_fraction" = some (.ref (f 9))
  g10 : mg "_law_is_fraction" = some (.ref (f 10))
  kp : ∀ i, i < 11 → PySem.W.keepIn K (.ref (f i)) = true
  b0 : Binds K (d 0) ["_law_script"] []
  b1 : Binds K (d 1) ["_law_deck_here", "_law_limit"] []
  b2 : Binds K (d 2) ["_law_deck_here", "_law_items"] []
  b3 : Binds K (d 3) ["_law_deck_here"] []
  b4 : Binds K (d 4) ["_law_deck_here"] []
  b5 : Binds K (d 5) ["_law_one_here", "_law_other"] []
  b6 : Binds K (d 6) ["_law_one_here", "_law_other", "_law_way"] []
  b7 : Binds K (d 7) ["_law_above", "_law_below"] []
  b8 : Binds K (d 8) ["_law_found"] []
  b9 : Binds K (d 9) ["value"] []
  b10 : Binds K (d 10) ["_law_value"] []
  mrepr : mg "repr" = none
  mrange : mg "range" = none
  mabs : mg "abs" = none
def spLaw (K : PySem.W.Frag) : Sp := fun vs H Q _ => ∃ (a : Addr) (ns : List Int), vs = [.ref a] ∧ SqL K H a (ns.map V.int) ∧ ns.length ≤ 63 ∧ ∀ H', Q (.bl true) H'
/-- if spoiled in (..): name = odd(deck) -/
theorem spoil_ok {K : PySem.W.Frag} {b : Addr} {i : Nat} {m n k : Int} {v0 : V} {d0 : PyData} {σ : L2.St} {H : Hp} {D : Ends} (hb : BagAt H b) (h1 : σ[1]? = some (some (.ref b))) (h6 : σ[6]? = some (some (.int k))) (hi : σ.set i (some v0) = σ) (g0 : Good d0) (q0 : Dq K (wo H b) v0 d0)
    (nx : ∀ v d H', Good d → Dq K (wo H' b) v d → BagAt H' b → But b H H' → D.nx (σ.set i (some v)) H') :
    tIfS (tTest (tOp (rIn K false) (tVar 6) (tLit K (.tuple [.int m, .int n])))) (tAsg (tCall (spOdd K) [] E0 (tCons (tVar 1) tNil)) (gName i)) tNext D σ H := by
  refine ⟨_, h6, fun v H1 s1 f1 => ?_⟩
  obtain ⟨p, xs, hp, ex⟩ : ∃ p xs, v = .ref p ∧ SqT K H1 p xs ∧ xs.all flatV = true := by
    obtain ⟨p, xs, ds, e1, e2, h, r⟩ := isT_tup f1.dat rfl
    injection e2 with e2
    subst e2
    obtain ⟨x, y, dx, dy, rfl, e3, hx, hy⟩ := two_of r r.length
    injection e3 with e3 e4
    injection e4 with e4 e5
    subst e3 e4
    obtain ⟨i1, rfl, _⟩ := isI_int hx rfl
    obtain ⟨i2, rfl, _⟩ := isI_int hy rfl
    exact ⟨p, _, e1, h, by simp [flatV]⟩
  subst hp
  refine ⟨p, xs, rfl, .inr ex.1, rfl, ex.2, _, rfl, ite2 (fun _ => ?_) (fun _ => ?_)⟩
  · refine ⟨_, h1, b, rfl, hb.up s1, fun v d H' hd hD hb' k' => ?_⟩
    exact nx v d H' (odd_good d hd) hD hb' ((But.of s1).trans k')
  · have z := nx v0 d0 H1 g0 (q0.up (wo_up s1)) (hb.up s1) (But.of s1)
    rw [hi] at z
    exact z
section
variable {P : Program} {w : World} {K : PySem.W.Frag} {mg : Str → Option Value} {base : Heap} {fn : Nat → Addr} {fd : Nat → FuncData}
theorem ok_law {f : Addr} {fdL : FuncData} (F : Fun K "law" "law" sLaw f fdL) (T : LT K mg fn fd) (sm : ∃ mm, base.Ns sysModules mm)
    (G0 : FnOk P w K mg base CX0 1 (fn 0) (fd 0) ["_law_script"] (spDeck K)) (G1 : FnOk P w K mg base CX0 1 (fn 1) (fd 1) ["_law_deck_here", "_law_limit"] spTake) (G2 : FnOk P w K mg base CX0 2 (fn 2) (fd 2) ["_law_deck_here", "_law_items"] (spOne K))
    (G3 : FnOk P w K mg base CX0 3 (fn 3) (fd 3) ["_law_deck_here"] spNum) (G4 : FnOk P w K mg base CX0 3 (fn 4) (fd 4) ["_law_deck_here"] (spOdd K)) (G5 : FnOk P w K mg base CX0 2 (fn 5) (fd 5) ["_law_one_here", "_law_other"] (spDue K))
    (G6 : FnOk P w K mg base CX0 4 (fn 6) (fd 6) ["_law_one_here", "_law_other", "_law_way"] (spMade K)) (G7 : FnOk P w K mg base CX0 1 (fn 7) (fd 7) ["_law_above", "_law_below"] spFrac) (G8 : FnOk P w K mg base CX0 1 (fn 8) (fd 8) ["_law_found"] (spNear K))
    (G9 : FnOk P w K mg base CX0 2 (fn 9) (fd 9) ["value"] (spIsF K)) (G10 : FnOk P w K mg base CX0 2 (fn 10) (fd 10) ["_law_value"] (spLif K)) :
    GOk P w K mg base CX0 5 f fdL ["_law_script"] (spLaw K) := by
  have kp := T.kp
  refine gok_of F scLaw (fun vs H Q E h => ?_) (fun cdv A outer s H vs Q E gd hr h => ?_)
  · obtain ⟨a, ns, rfl, _⟩ := h
    rfl
  obtain ⟨a, ns, rfl, hS, hlen, q⟩ := h
  have hu : A.units + 3 + 64 < cLine := hr.units
  have r1 : Room 1 _ := hr.mono (by decide)
  have r2 : Room 2 _ := hr.mono (by decide)
  have r3 : Room 3 _ := hr.mono (by decide)
  refine ⟨_, pss_cons (ps_set (i := 1) scLaw.nd rfl (.inl rfl) (pe_call G0 r1 (by rfl) T.g0 (kp 0 (by decide)) T.b0 .nil pass0 (pa_cons (pv 0) pa_nil)))
    (pss_cons (ps_for PassesOwn.never rfl (pi_range1 rfl T.mrange (pa_cons pe_int pa_nil)) (pg_name (i := 2) scLaw.nd rfl (.inl rfl))
      (pss_cons (ps_set (i := 3) scLaw.nd rfl (.inl rfl) (pe_call G2 r2 (by rfl) T.g2 (kp 2 (by decide)) T.b2 .nil pass0 (pa_cons (pv 1) (pa_cons (lit_lstT (lits_cons lit_int (lits_cons lit_int (lits_cons lit_int (lits_cons lit_int (lits_cons lit_pow lits_nil)))))) pa_nil))))
      (pss_cons (ps_set (i := 4) scLaw.nd rfl (.inl rfl) (pe_op op_mul (pe_op op_fdiv (pe_call G3 r3 (by rfl) T.g3 (kp 3 (by decide)) T.b3 .nil pass0 (pa_cons (pv 1) pa_nil)) (pv 3)) (pv 3)))
      (pss_cons (ps_set (i := 5) scLaw.nd rfl (.inl rfl) (pe_op op_mul (pe_op op_fdiv (pe_call G3 r3 (by rfl) T.g3 (kp 3 (by decide)) T.b3 .nil pass0 (pa_cons (pv 1) pa_nil)) (pv 3)) (pv 3)))
      (pss_cons (ps_set (i := 6) scLaw.nd rfl (.inl rfl) (pe_call G1 r1 (by rfl) T.g1 (kp 1 (by decide)) T.b1 .nil pass0 (pa_cons (pv 1) (pa_cons pe_int pa_nil))))
      (pss_cons (ps_if (pt_cmpR op_in_seq (pv 6) (lit_tup (lits_cons lit_int (lits_cons lit_int lits_nil))) (by rfl)) (pss_one (ps_set (i := 4) scLaw.nd rfl (.inl rfl) (pe_call G4 r3 (by rfl) T.g4 (kp 4 (by decide)) T.b4 .nil pass0 (pa_cons (pv 1) pa_nil)))) pss_nil)
      (pss_cons (ps_if (pt_cmpR op_in_seq (pv 6) (lit_tup (lits_cons lit_int (lits_cons lit_int lits_nil))) (by rfl)) (pss_one (ps_set (i := 5) scLaw.nd rfl (.inl rfl) (pe_call G4 r3 (by rfl) T.g4 (kp 4 (by decide)) T.b4 .nil pass0 (pa_cons (pv 1) pa_nil)))) pss_nil)
      (pss_cons (ps_for PassesOwn.never rfl (pi_range1 rfl T.mrange (pa_cons pe_int pa_nil)) (pg_name (i := 7) scLaw.nd rfl (.inl rfl))
        (pss_cons (ps_set (i := 8) scLaw.nd rfl (.inl rfl) (pe_call G5 r2 (by rfl) T.g5 (kp 5 (by decide)) T.b5 .nil pass0 (pa_cons (pv 4) (pa_cons (pe_ifExp (pt_cmpR op_lt (pv 7) pe_int (nomark _)) (pv 5) pe_int) pa_nil))))
        (pss_cons (ps_set (i := 9) scLaw.nd rfl (.inl rfl) (pe_lst (pa_cons (pe_call G6 hr (by rfl) T.g6 (kp 6 (by decide)) T.b6 .nil pass0 (pa_cons (pv 4) (pa_cons (pv 5) (pa_cons (pv 7) pa_nil)))) (pa_cons (pe_call G6 hr (by rfl) T.g6 (kp 6 (by decide)) T.b6 .nil pass0 (pa_cons (pv 4) (pa_cons (pv 5) (pa_cons (pv 7) pa_nil)))) pa_nil))))
        (pss_one (ps_if (pt_cmpR op_ne (pe_callB (call_repr gd hu sm) (by rfl) T.mrepr (by decide +kernel) (pa_cons (pv 9) pa_nil)) (pe_callB (call_repr gd hu sm) (by rfl) T.mrepr (by decide +kernel) (pa_cons (pe_lst (pa_cons (pv 8) (pa_cons (pv 8) pa_nil))) pa_nil)) (nomark _)) (pss_one (ps_ret pe_bl)) pss_nil)))))
      (pss_cons (ps_set (i := 10) scLaw.nd rfl (.inl rfl) (pe_call G7 r1 (by rfl) T.g7 (kp 7 (by decide)) T.b7 .nil pass0 (pa_cons (pe_call G3 r3 (by rfl) T.g3 (kp 3 (by decide)) T.b3 .nil pass0 (pa_cons (pv 1) pa_nil)) (pa_cons (pe_op op_add pe_int (pe_callB call_abs (by rfl) T.mabs (by decide +kernel) (pa_cons (pe_call G3 r3 (by rfl) T.g3 (kp 3 (by decide)) T.b3 .nil pass0 (pa_cons (pv 1) pa_nil)) pa_nil))) pa_nil))))
      (pss_one (ps_for PassesOwn.never rfl (pi_list (pe_op op_cat (pe_call G8 r1 (by rfl) T.g8 (kp 8 (by decide)) T.b8 .nil pass0 (pa_cons (pv 10) pa_nil))
            (pe_lst (pa_cons (pe_call G4 r3 (by rfl) T.g4 (kp 4 (by decide)) T.b4 .nil pass0 (pa_cons (pv 1) pa_nil)) (pa_cons (pe_call G4 r3 (by rfl) T.g4 (kp 4 (by decide)) T.b4 .nil pass0 (pa_cons (pv 1) pa_nil)) (pa_cons (pv 4) (pa_cons (pe_tup (pa_cons (pv 4) (pa_cons (pv 5) pa_nil))) pa_nil))))))) (pg_name (i := 11) scLaw.nd rfl (.inl rfl))
        (pss_one (ps_if (pt_cmpR op_ne (pe_callB (call_repr gd hu sm) (by rfl) T.mrepr (by decide +kernel) (pa_cons (pe_call G9 r2 (by rfl) T.g9 (kp 9 (by decide)) T.b9 .nil pass0 (pa_cons (pv 11) pa_nil)) pa_nil)) (pe_callB (call_repr gd hu sm) (by rfl) T.mrepr (by decide +kernel) (pa_cons (pe_call G10 r2 (by rfl) T.g10 (kp 10 (by decide)) T.b10 .nil pass0 (pa_cons (pv 11) pa_nil)) pa_nil)) (nomark _)) (pss_one (ps_ret pe_bl)) pss_nil)))))))))))))
    (pss_one (ps_ret pe_bl))), ?_⟩
  refine ⟨.ref a, rfl, a, ns, rfl, hS, hlen, fun H1 b s1 nb hb => ?_⟩
  refine ⟨6, rfl, by decide, by decide, ?_⟩
  refine for_range (lo := 0) (n := 6) (fun _ σ H' => ∃ v2 v3 v4 v5 v6 v7 v8 v9 v10 v11 : Option V, σ = [some (.ref a), some (.ref b), v2, v3, v4, v5, v6, v7, v8, v9, v10, v11] ∧ BagAt H' b) ⟨_, _, _, _, _, _, _, _, _, _, rfl, hb⟩ ?_ ?_
  rotate_left
  · rintro σ H' ⟨v2, v3, v4, v5, v6, v7, v8, v9, v10, v11, rfl, _⟩
    exact q _
  rintro i6 σ H2 hi6 ⟨v2, v3, v4, v5, v6, v7, v8, v9, v10, v11, rfl, hb2⟩
  -- the common factor
  refine ⟨_, rfl, fun p3 w3 H3 s3 n3 e3 f3 => ?_⟩
  have np3 : p3 ≠ b := fun z => hb2.ne (by rw [← z]; exact n3)
  have l3 : w3.length = 5 := f3.dat.length
  refine ⟨b, p3, w3, rfl, hb2.up s3, .inl (.inl (wo_at e3 np3)), by omega, by omega, fun x o3 hx ho3 => ?_⟩
  obtain ⟨c, rfl, c0, c1⟩ : ∃ c : Int, x = .int c ∧ 0 < c ∧ c ≤ 1000000 := by
    obtain ⟨d, hd, hD⟩ := (f3.sep b hb2.ne).mem hx
    have h : ∀ d ∈ [PyData.int 1, .int 1, .int 2, .int 12, .int (10 ^ (6 : Int).toNat)], (match d with | .int i => decide (0 < i) && decide (i ≤ 1000000) | _ => false) = true := fun d hd => List.all_eq_true.mp (show [PyData.int 1, .int 1, .int 2, .int 12, .int (10 ^ (6 : Int).toNat)].all (fun d => match d with | .int i => decide (0 < i) && decide (i ≤ 1000000) | _ => false) = true by decide +kernel) d hd
    have z := h d hd
    cases hD with
    | int i =>
      have z' : (decide ((0 : Int) < i) && decide (i ≤ 1000000)) = true := z
      simp only [Bool.and_eq_true, decide_eq_true_eq] at z'
      exact ⟨i, rfl, z'.1, z'.2⟩
    | _ => cases z
  have hb4 : BagAt (upd H3 b o3) b := ⟨o3, upd_same, ho3⟩
  generalize upd H3 b o3 = H4 at hb4 ⊢
  have prod : ∀ n : Int, n.natAbs ≤ 10 ^ 39 → Bd (n / c * c) := by
    intro n hn
    have e : n / c * c = n - n % c := by have := Int.mul_ediv_add_emod n c; rw [Int.mul_comm]; omega
    have h1 := Int.emod_nonneg n (show c ≠ 0 by omega)
    have h2 := Int.emod_lt_of_pos n c0
    show (n / c * c).natAbs < 2 ^ 200
    rw [e]
    omega
  -- up and low
  refine ⟨_, rfl, b, rfl, hb4, fun n5 H5 hn5 hb5 k5 => ?_⟩
  refine ⟨_, rfl, _, _, rfl, rfl, ⟨c0, by omega⟩, _, rfl, _, _, rfl, rfl, .inr ⟨by omega, by omega⟩, ?_⟩
  refine ⟨_, rfl, b, rfl, hb5, fun n6 H6 hn6 hb6 k6 => ?_⟩
  refine ⟨_, rfl, _, _, rfl, rfl, ⟨c0, by omega⟩, _, rfl, _, _, rfl, rfl, .inr ⟨by omega, by omega⟩, ?_⟩
  refine ⟨_, rfl, b, 6, rfl, hb6, by decide, by decide +kernel, fun k7 o7 k70 k71 ho7 => ?_⟩
  have hb7 : BagAt (upd H6 b o7) b := ⟨o7, upd_same, ho7⟩
  generalize upd H6 b o7 = H7 at hb7 ⊢
  refine spoil_ok (v0 := .int (n5 / c * c)) (d0 := .int (n5 / c * c)) hb7 rfl rfl rfl (good_int (prod n5 hn5)) (.int _) fun vu du H8 gu qu hb8 _ => ?_
  refine spoil_ok (v0 := .int (n6 / c * c)) (d0 := .int (n6 / c * c)) hb8 rfl rfl rfl (good_int (prod n6 hn6)) (.int _) fun vl dl H9 gl ql hb9 k9 => ?_
  have qu9 := qu.up k9.wo
  -- the three ways
  refine ⟨3, rfl, by decide, by decide, ?_⟩
  refine for_range (lo := 0) (n := 3) (fun _ σ H' => ∃ w7 w8 w9 : Option V, σ = [some (.ref a), some (.ref b), some (.int (0 + (i6 : Int))), some (.int c), some vu, some vl, some (.int k7), w7, w8, w9, v10, v11] ∧ Same H9 H') ⟨_, _, _, rfl, Same.refl _⟩ ?_ ?_
  · rintro i3 σ HA hi3 ⟨w7, w8, w9, rfl, sA⟩
    have quA := (qu9.up wo_same).up sA
    have qlA := (ql.up wo_same).up sA
    refine ⟨_, rfl, _, rfl, _, _, rfl, rfl, _, rfl, ifpick rfl ?_⟩
    have hy : Dq K HA (if decide ((0 + (i3 : Int)) < 2) = true then vl else .int 1) (if (0 + (i3 : Int)) < 2 then dl else .int 1) := by
      by_cases c2 : (0 + (i3 : Int)) < 2
      · rw [decide_eq_true c2, if_pos rfl, if_pos c2]
        exact qlA
      · rw [decide_eq_false c2, if_neg Bool.false_ne_true, if_neg c2]
        exact .int 1
    have fy : FitI (if (0 + (i3 : Int)) < 2 then dl else .int 1) := by
      by_cases c2 : (0 + (i3 : Int)) < 2
      · rw [if_pos c2]
        exact gl.1
      · rw [if_neg c2]
        exact (good_int (n := 1) (by decide)).1
    refine ⟨vu, _, du, _, rfl, quA, hy, fy, fun vd HB sB qd => ?_⟩
    have k0 : (0 : Int) ≤ 0 + (i3 : Int) := by omega
    have k3 : 0 + (i3 : Int) < 3 := by omega
    refine ⟨_, rfl, _, rfl, _, rfl, vu, vl, du, dl, _, rfl, k0, k3, quA.up sB, qlA.up sB, gl.1, fun m1 HC sC q1 => ?_⟩
    refine ⟨_, rfl, _, rfl, _, rfl, vu, vl, du, dl, _, rfl, k0, k3, (quA.up sB).up sC, (qlA.up sB).up sC, gl.1, fun m2 HD sD q2 => ?_⟩
    refine ⟨(by show 2 ≤ sizeLine; decide), fun pf nf => ?_⟩
    have sF := same_new (o := .lst [m1, m2]) nf
    have sz := res_sz gu.1 fy
    have szL : ∀ d ∈ [resD (frR du (if (0 + (i3 : Int)) < 2 then dl else .int 1)), resD (frR du (if (0 + (i3 : Int)) < 2 then dl else .int 1))], Sz 1000 d := by
      intro d hd
      have z : d = resD (frR du (if (0 + (i3 : Int)) < 2 then dl else .int 1)) := by simpa using hd
      rw [z]
      exact sz
    obtain ⟨z1, z2, z3⟩ := sz_list (m := 4000) szL (by show 1000 * 2 + 2 * 2 + 3 ≤ 4000; decide)
    have z2' : (PyData.list [resD (frR du (if (0 + (i3 : Int)) < 2 then dl else .int 1)), resD (frR du (if (0 + (i3 : Int)) < 2 then dl else .int 1))]).depth ≤ 60 := by omega
    have z3' : (PyData.list [resD (frR du (if (0 + (i3 : Int)) < 2 then dl else .int 1)), resD (frR du (if (0 + (i3 : Int)) < 2 then dl else .int 1))]).shown.length ≤ sizeLine := Nat.le_trans z3 (by decide)
    refine ⟨_, rfl, .ref pf, _, rfl, .lst (SqL.of upd_same) (.cons (((q1.up sD).up sF)) (.cons (q2.up sF) .nil)), z1, z2', z3', ?_⟩
    refine ⟨_, rfl, _, rfl, (by show 2 ≤ sizeLine; decide), fun pg ng => ?_⟩
    have sG := same_new (o := .lst [vd, vd]) ng
    have qdG := (((qd.up sC).up sD).up sF).up sG
    refine ⟨.ref pg, _, rfl, .lst (SqL.of upd_same) (.cons qdG (.cons qdG .nil)), z1, z2', z3', rfl, _, rfl, iteNS rfl ?_⟩
    exact ⟨_, _, _, rfl, ((((sA.trans sB).trans sC).trans sD).trans sF).trans sG⟩
  rintro σ HA ⟨w7, w8, w9, rfl, sA⟩
  have hbA := hb9.up sA
  have quA := qu9.up (wo_up sA)
  have qlA := ql.up (wo_up sA)
  -- a fraction, and what is near it
  refine ⟨_, rfl, b, rfl, hbA, fun n1 HB hn1 hbB kB => ?_⟩
  refine ⟨_, rfl, b, rfl, hbB, fun n2 HC hn2 hbC kC => ?_⟩
  obtain ⟨m, hm, m1, m2⟩ : ∃ m : Int, m = 1 + (if n2 < 0 then -n2 else n2) ∧ 0 < m ∧ m.natAbs ≤ 10 ^ 39 + 1 := by
    refine ⟨_, rfl, ?_, ?_⟩
    · split <;> omega
    · split <;> omega
  refine ⟨n2, rfl, _, _, rfl, rfl, ?_⟩
  refine ⟨n1, m, (by rw [hm]; rfl), by omega, (by show m.natAbs < 2 ^ 200; omega), fun pp np => ?_⟩
  have sP := same_new (o := .tup [.int (lo n1 m).1, .int (lo n1 m).2]) np
  have la := lo_abs (a := n1) (b := m) (by omega)
  have npb : pp ≠ b := fun z => hbC.ne (by rw [← z]; exact np)
  have hbP := hbC.up sP
  have kP : But b HA (upd HC pp (.tup [.int (lo n1 m).1, .int (lo n1 m).2])) := (kB.trans kC).trans (But.of sP)
  have lg : (lo n1 m).1.natAbs.log2 < 1920 := by
    have : (lo n1 m).1.natAbs.log2 < 200 := PySem.Flt.log2_lt_of (by decide) (by omega)
    omega
  refine ⟨_, rfl, pp, b, _, _, rfl, upd_same, npb, hbP.ne, lg, fun q1 v1 HD sD nq1 eq1 d1 => ?_⟩
  have hbD := hbP.up sD
  have nq1b : q1 ≠ b := fun z => hbP.ne (by rw [← z]; exact nq1)
  refine ⟨_, rfl, b, rfl, hbD, fun x1 e1 HE he1 hE1 hbE kE => ?_⟩
  refine ⟨_, rfl, b, rfl, hbE, fun x2 e2 HF he2 hE2 hbF kF => ?_⟩
  refine ⟨_, rfl, _, rfl, _, rfl, (by show 2 ≤ sizeLine; decide), fun t nt => ?_⟩
  have sT := same_new (o := .tup [vu, vl]) nt
  have ntb : t ≠ b := fun z => hbF.ne (by rw [← z]; exact nt)
  refine ⟨(by show 4 ≤ sizeLine; decide), fun q2 nq2 => ?_⟩
  have sQ := same_new (o := .lst [x1, x2, vu, .ref t]) nq2
  have l1 : v1.length = 21 := d1.length
  have eq1F : HF q1 = some (.lst v1) := kF q1 _ nq1b (kE q1 _ nq1b eq1)
  refine ⟨q1, q2, v1, _, rfl, rfl, sQ _ _ (sT _ _ eq1F), upd_same, (by rw [l1]; show 25 ≤ sizeLine; decide), fun q3 nq3 => ?_⟩
  have sR := same_new (o := .lst (v1 ++ [x1, x2, vu, .ref t])) nq3
  have up1 : Same (wo HD b) (wo HF b) := (kE.trans kF).wo
  have sAll := (sT.trans sQ).trans sR
  have quF : Dq K (wo HF b) vu du := quA.up (((kP.trans (But.of sD)).trans kE).trans kF).wo
  have qlF : Dq K (wo HF b) vl dl := qlA.up (((kP.trans (But.of sD)).trans kE).trans kF).wo
  have dAll : DqAll K (upd (upd (upd HF t (.tup [vu, vl])) q2 (.lst [x1, x2, vu, .ref t])) q3 (.lst (v1 ++ [x1, x2, vu, .ref t]))) (v1 ++ [x1, x2, vu, .ref t]) (nearD (lo n1 m).1 (lo n1 m).2 ++ [e1, e2, du, .tuple [du, dl]]) := by
    refine DqAll.append (((d1.up up1).up wo_same).up sAll) (.cons (((hE1.up kF.wo).up wo_same).up sAll) (.cons ((hE2.up wo_same).up sAll) (.cons ((quF.up wo_same).up sAll) (.cons (.tup (.inl (.inl ?_)) (.cons ((quF.up wo_same).up sAll) (.cons ((qlF.up wo_same).up sAll) .nil))) .nil))))
    exact (sQ.trans sR) _ _ upd_same
  have fAll : ∀ d ∈ nearD (lo n1 m).1 (lo n1 m).2 ++ [e1, e2, du, .tuple [du, dl]], FitP d := by
    intro d hd
    rcases List.mem_append.mp hd with z | z
    · exact near_fit (by omega) (by omega) d z
    · have z' : d = e1 ∨ d = e2 ∨ d = du ∨ d = .tuple [du, dl] := by simpa using z
      rcases z' with rfl | rfl | rfl | rfl
      · exact (odd_good _ he1).2
      · exact (odd_good _ he2).2
      · exact gu.2
      · intro x y e
        injection e with e
        injection e with _ e
        injection e with e _
        exact gl.1 y e
  have hbR := (hbF.up sAll)
  refine ⟨q3, rfl, ⟨_, SqL.of upd_same⟩, ?_⟩
  refine for_list (K := K) (a := q3) (xs := v1 ++ [x1, x2, vu, .ref t]) (fun _ σ H' => ∃ w11 : Option V, σ = [some (.ref a), some (.ref b), some (.int (0 + (i6 : Int))), some (.int c), some vu, some vl, some (.int k7), w7, w8, w9, some (.ref pp), w11] ∧ Same (upd (upd (upd HF t (.tup [vu, vl])) q2 (.lst [x1, x2, vu, .ref t])) q3 (.lst (v1 ++ [x1, x2, vu, .ref t]))) H') ⟨_, rfl, Same.refl _⟩ ?_ ?_ ?_
  · rintro i σ H' _ ⟨w11, rfl, s'⟩
    exact SqL.of (s' _ _ upd_same)
  · rintro i y σ H' hi ⟨w11, rfl, s'⟩
    obtain ⟨d, hd, hD⟩ := dAll.get hi
    have hD' := hD.up s'
    have fit := fAll d (List.mem_of_getElem? hd)
    have bs : ∀ z : Bool, (PyData.bool z).showable = true ∧ (PyData.bool z).depth ≤ 60 ∧ (PyData.bool z).shown.length ≤ sizeLine := by
      intro z
      cases z
      · exact ⟨by decide +kernel, by decide +kernel, by decide +kernel⟩
      · exact ⟨by decide +kernel, by decide +kernel, by decide +kernel⟩
    obtain ⟨z1, z2, z3⟩ := bs (isF d)
    refine ⟨_, rfl, y, d, rfl, hD', .bl (isF d), .bool (isF d), rfl, .bl _, z1, z2, z3, ?_⟩
    refine ⟨_, rfl, y, d, rfl, hD', fit, fun H'' s'' => ?_⟩
    refine ⟨.bl (isF d), .bool (isF d), rfl, .bl _, z1, z2, z3, rfl, _, rfl, iteNS rfl ?_⟩
    exact ⟨_, rfl, s'.trans s''⟩
  · rintro σ H' ⟨w11, rfl, s'⟩
    exact ⟨_, _, _, _, _, _, _, _, _, _, rfl, hbR.up s'⟩
end
end K01

set_option Elab.async false
set_option linter.all false
set_option maxRecDepth 100000
set_option maxHeartbeats 4000000
namespace K01
open PySem PySem.Spec PyProof.Rows L2 LL
abbrev veB : List Value := [.type "ValueError", .type "Exception", .type "BaseException", .type "object"]
abbrev sBad : Stmt := inClass (topS 2) 0
theorem all_mk {l : PySem.W.OpenLaw} {w : World} {K : PySem.W.Frag} {h : Heap} {mg : Str → Option Value} {fa C CP fI fF TD : Addr} {ocI kVI dcI pmI cdI ctI : Value} {odI anI : Option Addr} {slI : Array (Option Value)} {ocF kVF dcF pmF cdF ctF ocT : Value} {odF anF odT : Option Addr} {slF slT : Array (Option Value)} {tkT : Tok} {nT : Nat} {f0 : Addr} {oc0 kV0 dc0 pm0 cd0 ct0 : Value} {od0 an0 : Option Addr} {sl0 : Array (Option Value)} {f1 : Addr} {oc1 kV1 dc1 pm1 cd1 ct1 : Value} {od1 an1 : Option Addr} {sl1 : Array (Option Value)} {f2 : Addr} {oc2 kV2 dc2 pm2 cd2 ct2 : Value} {od2 an2 : Option Addr} {sl2 : Array (Option Value)} {f3 : Addr} {oc3 kV3 dc3 pm3 cd3 ct3 : Value} {od3 an3 : Option Addr} {sl3 : Array (Option Value)} {f4 : Addr} {oc4 kV4 dc4 pm4 cd4 ct4 : Value} {od4 an4 : Option Addr} {sl4 : Array (Option Value)} {f5 : Addr} {oc5 kV5 dc5 pm5 cd5 ct5 : Value} {od5 an5 : Option Addr} {sl5 : Array (Option Value)} {f6 : Addr} {oc6 kV6 dc6 pm6 cd6 ct6 : Value} {od6 an6 : Option Addr} {sl6 : Array (Option Value)} {f7 : Addr} {oc7 kV7 dc7 pm7 cd7 ct7 : Value} {od7 an7 : Option Addr} {sl7 : Array (Option Value)} {f8 : Addr} {oc8 kV8 dc8 pm8 cd8 ct8 : Value} {od8 an8 : Option Addr} {sl8 : Array (Option Value)} {f9 : Addr} {oc9 kV9 dc9 pm9 cd9 ct9 : Value} {od9 an9 : Option Addr} {sl9 : Array (Option Value)} {f10 : Addr} {oc10 kV10 dc10 pm10 cd10 ct10 : Value} {od10 an10 : Option Addr} {sl10 : Array (Option Value)} {f11 : Addr} {oc11 kV11 dc11 pm11 cd11 ct11 : Value} {od11 an11 : Option Addr} {sl11 : Array (Option Value)} {f12 : Addr} {oc12 kV12 dc12 pm12 cd12 ct12 : Value} {od12 an12 : Option Addr} {sl12 : Array (Option Value)} {f13 : Addr} {oc13 kV13 dc13 pm13 cd13 ct13 : Value} {od13 an13 : Option Addr} {sl13 : Array (Option Value)} {f14 : Addr} {oc14 kV14 dc14 pm14 cd14 ct14 : Value} {od14 an14 : Option Addr} {sl14 : Array (Option Value)} (X : K.In h) (G : h.Ns mainGlobals mg) (hfa : mg "law" = some (.ref fa))
    (aC : PySem.W.nsIn K mainGlobals "BadFraction" = some (some (.ref C)))
    (aP : PySem.W.nsIn K mainGlobals "PlanError" = some (some (.ref CP)))
    (ee : ercB K C = true)
    (tt : extB K C veB "ValueError.__new__" = true)
    (no : PySem.W.findIn K (.ref C) "place" = some none)
    (iC : PySem.W.findIn K (.ref C) "__init__" = some (some (.ref fI)))
    (tI : PySem.W.typeIn K (.ref fI) = some (.type "function"))
    (lI : K.lookup fI = some ⟨ocI, odI, .func (PySem.W.fnOf "__init__" "BadFraction.__init__" (defArgs sBad) (defBody sBad) (defScope sBad) .none kVI dcI pmI anI cdI ctI), slI⟩)
    (cI : PySem.W.codeIn K cdI "BadFraction.__init__" = true)
    (kI : PySem.W.keepIn K (.ref fI) = true)
    (ty : PySem.W.typeIn K (.ref C) = some (.type "type"))
    (te : PySem.W.exmOne K (.ref C) (.ref C) = some true)
    (kP : PySem.W.kitOne K (.ref C) (.ref CP) = some true)
    (kV : PySem.W.kitOne K (.ref C) (.type "ValueError") = some true)
    (aF : PySem.W.nsIn K mainGlobals "fraction" = some (some (.ref fF)))
    (lF : K.lookup fF = some ⟨ocF, odF, .func (PySem.W.fnOf "fraction" "fraction" (defArgs sFr) (defBody sFr) (defScope sFr) (.ref TD) kVF dcF pmF anF cdF ctF), slF⟩)
    (cF : PySem.W.codeIn K cdF "fraction" = true)
    (kF : PySem.W.keepIn K (.ref fF) = true)
    (lT : K.lookup TD = some ⟨ocT, odT, .seq [Value.int 1 tkT].toArray nT, slT⟩)
    (a0 : PySem.W.nsIn K mainGlobals "_law_deck" = some (some (.ref f0)))
    (l0 : K.lookup f0 = some ⟨oc0, od0, .func (PySem.W.fnOf "_law_deck" "_law_deck" (defArgs sDeck) (defBody sDeck) (defScope sDeck) .none kV0 dc0 pm0 an0 cd0 ct0), sl0⟩)
    (c0 : PySem.W.codeIn K cd0 "_law_deck" = true)
    (k0 : PySem.W.keepIn K (.ref f0) = true)
    (a1 : PySem.W.nsIn K mainGlobals "_law_take" = some (some (.ref f1)))
    (l1 : K.lookup f1 = some ⟨oc1, od1, .func (PySem.W.fnOf "_law_take" "_law_take" (defArgs sTake) (defBody sTake) (defScope sTake) .none kV1 dc1 pm1 an1 cd1 ct1), sl1⟩)
    (c1 : PySem.W.codeIn K cd1 "_law_take" = true)
    (k1 : PySem.W.keepIn K (.ref f1) = true)
    (a2 : PySem.W.nsIn K mainGlobals "_law_one" = some (some (.ref f2)))
    (l2 : K.lookup f2 = some ⟨oc2, od2, .func (PySem.W.fnOf "_law_one" "_law_one" (defArgs sOne) (defBody sOne) (defScope sOne) .none kV2 dc2 pm2 an2 cd2 ct2), sl2⟩)
    (c2 : PySem.W.codeIn K cd2 "_law_one" = true)
    (k2 : PySem.W.keepIn K (.ref f2) = true)
    (a3 : PySem.W.nsIn K mainGlobals "_law_number" = some (some (.ref f3)))
    (l3 : K.lookup f3 = some ⟨oc3, od3, .func (PySem.W.fnOf "_law_number" "_law_number" (defArgs sNum) (defBody sNum) (defScope sNum) .none kV3 dc3 pm3 an3 cd3 ct3), sl3⟩)
    (c3 : PySem.W.codeIn K cd3 "_law_number" = true)
    (k3 : PySem.W.keepIn K (.ref f3) = true)
    (a4 : PySem.W.nsIn K mainGlobals "_law_odd" = some (some (.ref f4)))
    (l4 : K.lookup f4 = some ⟨oc4, od4, .func (PySem.W.fnOf "_law_odd" "_law_odd" (defArgs sOdd) (defBody sOdd) (defScope sOdd) .none kV4 dc4 pm4 an4 cd4 ct4), sl4⟩)
    (c4 : PySem.W.codeIn K cd4 "_law_odd" = true)
    (k4 : PySem.W.keepIn K (.ref f4) = true)
    (a5 : PySem.W.nsIn K mainGlobals "_law_due" = some (some (.ref f5)))
    (l5 : K.lookup f5 = some ⟨oc5, od5, .func (PySem.W.fnOf "_law_due" "_law_due" (defArgs sDue) (defBody sDue) (defScope sDue) .none kV5 dc5 pm5 an5 cd5 ct5), sl5⟩)
    (c5 : PySem.W.codeIn K cd5 "_law_due" = true)
    (k5 : PySem.W.keepIn K (.ref f5) = true)
    (a6 : PySem.W.nsIn K mainGlobals "_law_made" = some (some (.ref f6)))
    (l6 : K.lookup f6 = some ⟨oc6, od6, .func (PySem.W.fnOf "_law_made" "_law_made" (defArgs sMade) (defBody sMade) (defScope sMade) .none kV6 dc6 pm6 an6 cd6 ct6), sl6⟩)
    (c6 : PySem.W.codeIn K cd6 "_law_made" = true)
    (k6 : PySem.W.keepIn K (.ref f6) = true)
    (a7 : PySem.W.nsIn K mainGlobals "_law_frac" = some (some (.ref f7)))
    (l7 : K.lookup f7 = some ⟨oc7, od7, .func (PySem.W.fnOf "_law_frac" "_law_frac" (defArgs sFrac) (defBody sFrac) (defScope sFrac) .none kV7 dc7 pm7 an7 cd7 ct7), sl7⟩)
    (c7 : PySem.W.codeIn K cd7 "_law_frac" = true)
    (k7 : PySem.W.keepIn K (.ref f7) = true)
    (a8 : PySem.W.nsIn K mainGlobals "_law_near" = some (some (.ref f8)))
    (l8 : K.lookup f8 = some ⟨oc8, od8, .func (PySem.W.fnOf "_law_near" "_law_near" (defArgs sNear) (defBody sNear) (defScope sNear) .none kV8 dc8 pm8 an8 cd8 ct8), sl8⟩)
    (c8 : PySem.W.codeIn K cd8 "_law_near" = true)
    (k8 : PySem.W.keepIn K (.ref f8) = true)
    (a9 : PySem.W.nsIn K mainGlobals "is_fraction" = some (some (.ref f9)))
    (l9 : K.lookup f9 = some ⟨oc9, od9, .func (PySem.W.fnOf "is_fraction" "is_fraction" (defArgs sIsF) (defBody sIsF) (defScope sIsF) .none kV9 dc9 pm9 an9 cd9 ct9), sl9⟩)
    (c9 : PySem.W.codeIn K cd9 "is_fraction" = true)
    (k9 : PySem.W.keepIn K (.ref f9) = true)
    (a10 : PySem.W.nsIn K mainGlobals "_law_is_fraction" = some (some (.ref f10)))
    (l10 : K.lookup f10 = some ⟨oc10, od10, .func (PySem.W.fnOf "_law_is_fraction" "_law_is_fraction" (defArgs sLif) (defBody sLif) (defScope sLif) .none kV10 dc10 pm10 an10 cd10 ct10), sl10⟩)
    (c10 : PySem.W.codeIn K cd10 "_law_is_fraction" = true)
    (k10 : PySem.W.keepIn K (.ref f10) = true)
    (a11 : PySem.W.nsIn K mainGlobals "is_whole_number" = some (some (.ref f11)))
    (l11 : K.lookup f11 = some ⟨oc11, od11, .func (PySem.W.fnOf "is_whole_number" "is_whole_number" (defArgs sWhole) (defBody sWhole) (defScope sWhole) .none kV11 dc11 pm11 an11 cd11 ct11), sl11⟩)
    (c11 : PySem.W.codeIn K cd11 "is_whole_number" = true)
    (k11 : PySem.W.keepIn K (.ref f11) = true)
    (a12 : PySem.W.nsIn K mainGlobals "common_divisor" = some (some (.ref f12)))
    (l12 : K.lookup f12 = some ⟨oc12, od12, .func (PySem.W.fnOf "common_divisor" "common_divisor" (defArgs sCd) (defBody sCd) (defScope sCd) .none kV12 dc12 pm12 an12 cd12 ct12), sl12⟩)
    (c12 : PySem.W.codeIn K cd12 "common_divisor" = true)
    (k12 : PySem.W.keepIn K (.ref f12) = true)
    (a13 : PySem.W.nsIn K mainGlobals "_law_is_integer" = some (some (.ref f13)))
    (l13 : K.lookup f13 = some ⟨oc13, od13, .func (PySem.W.fnOf "_law_is_integer" "_law_is_integer" (defArgs sInt) (defBody sInt) (defScope sInt) .none kV13 dc13 pm13 an13 cd13 ct13), sl13⟩)
    (c13 : PySem.W.codeIn K cd13 "_law_is_integer" = true)
    (k13 : PySem.W.keepIn K (.ref f13) = true)
    (a14 : PySem.W.nsIn K mainGlobals "law" = some (some (.ref f14)))
    (l14 : K.lookup f14 = some ⟨oc14, od14, .func (PySem.W.fnOf "law" "law" (defArgs sLaw) (defBody sLaw) (defScope sLaw) .none kV14 dc14 pm14 an14 cd14 ct14), sl14⟩)
    (c14 : PySem.W.codeIn K cd14 "law" = true)
    (k14 : PySem.W.keepIn K (.ref f14) = true)
    (z_len : PySem.W.nsIn K mainGlobals "len" = some none)
    (z_abs : PySem.W.nsIn K mainGlobals "abs" = some none)
    (z_int : PySem.W.nsIn K mainGlobals "int" = some none)
    (z_bool : PySem.W.nsIn K mainGlobals "bool" = some none)
    (z_tuple : PySem.W.nsIn K mainGlobals "tuple" = some none)
    (z_str : PySem.W.nsIn K mainGlobals "str" = some none)
    (z_isinstance : PySem.W.nsIn K mainGlobals "isinstance" = some none)
    (z_ValueError : PySem.W.nsIn K mainGlobals "ValueError" = some none)
    (z_repr : PySem.W.nsIn K mainGlobals "repr" = some none)
    (z_range : PySem.W.nsIn K mainGlobals "range" = some none)
    (sp : PySem.W.specialIn K (.builtin "object.__class__") "__get__" = some (some (.builtin "getset_descriptor.__get__")))
    (tk : PySem.W.takesIn K (.builtin "object.__class__") = some true)
    : ∃ fd : FuncData, (∀ (s : Shared) (v : Value), BindsTo s fd ⟨[v], []⟩ [("_law_script", v)]) ∧ ∀ base : Heap, K.In base → base.Ns mainGlobals mg → (∃ mm, base.Ns sysModules mm) → GOk l.prog w K mg base CX0 5 fa fd ["_law_script"] (spLaw K) := by
  have e := hfa.symm.trans (PySem.W.mg_of X G a14)
  cases e
  have ec := erc_of ee
  have cg : ClG K := ⟨sp, tk⟩
  have T := er1_mk (n := "place") (st := sBad) X G PySem.F.store_ValueError PySem.F.excBase_ValueError ec ⟨rfl, rfl, rfl, by decide +kernel, rfl, by decide +kernel, by decide +kernel⟩ rfl rfl (by decide) rfl (fun _ _ _ _ _ _ us hl => match us, hl with | [_, _], _ => rfl) aC tt no iC tI lI cI kI
  have FF : FrD K fF _ := ⟨⟨_, _, _, _, _, _, _, _, _, _, rfl, lF, cF, .inr ⟨(fun z => by cases z), TD, _, [Value.int 1 tkT], _, rfl, lT, rfl, .cons ⟨tkT, rfl⟩ .nil⟩, .inl rfl⟩, kF⟩
  have F0 := fun_mk (st := sDeck) l0 c0 k0
  have b0 := F0.binds (ps := ["_law_script"]) fun _ _ _ _ _ _ us hl => match us, hl with | [_], _ => rfl
  have F1 := fun_mk (st := sTake) l1 c1 k1
  have b1 := F1.binds (ps := ["_law_deck_here", "_law_limit"]) fun _ _ _ _ _ _ us hl => match us, hl with | [_, _], _ => rfl
  have F2 := fun_mk (st := sOne) l2 c2 k2
  have b2 := F2.binds (ps := ["_law_deck_here", "_law_items"]) fun _ _ _ _ _ _ us hl => match us, hl with | [_, _], _ => rfl
  have F3 := fun_mk (st := sNum) l3 c3 k3
  have b3 := F3.binds (ps := ["_law_deck_here"]) fun _ _ _ _ _ _ us hl => match us, hl with | [_], _ => rfl
  have F4 := fun_mk (st := sOdd) l4 c4 k4
  have b4 := F4.binds (ps := ["_law_deck_here"]) fun _ _ _ _ _ _ us hl => match us, hl with | [_], _ => rfl
  have F5 := fun_mk (st := sDue) l5 c5 k5
  have b5 := F5.binds (ps := ["_law_one_here", "_law_other"]) fun _ _ _ _ _ _ us hl => match us, hl with | [_, _], _ => rfl
  have F6 := fun_mk (st := sMade) l6 c6 k6
  have b6 := F6.binds (ps := ["_law_one_here", "_law_other", "_law_way"]) fun _ _ _ _ _ _ us hl => match us, hl with | [_, _, _], _ => rfl
  have F7 := fun_mk (st := sFrac) l7 c7 k7
  have b7 := F7.binds (ps := ["_law_above", "_law_below"]) fun _ _ _ _ _ _ us hl => match us, hl with | [_, _], _ => rfl
  have F8 := fun_mk (st := sNear) l8 c8 k8
  have b8 := F8.binds (ps := ["_law_found"]) fun _ _ _ _ _ _ us hl => match us, hl with | [_], _ => rfl
  have F9 := fun_mk (st := sIsF) l9 c9 k9
  have b9 := F9.binds (ps := ["value"]) fun _ _ _ _ _ _ us hl => match us, hl with | [_], _ => rfl
  have F10 := fun_mk (st := sLif) l10 c10 k10
  have b10 := F10.binds (ps := ["_law_value"]) fun _ _ _ _ _ _ us hl => match us, hl with | [_], _ => rfl
  have F11 := fun_mk (st := sWhole) l11 c11 k11
  have b11 := F11.binds (ps := ["value"]) fun _ _ _ _ _ _ us hl => match us, hl with | [_], _ => rfl
  have F12 := fun_mk (st := sCd) l12 c12 k12
  have b12 := F12.binds (ps := ["one", "other"]) fun _ _ _ _ _ _ us hl => match us, hl with | [_, _], _ => rfl
  have F13 := fun_mk (st := sInt) l13 c13 k13
  have b13 := F13.binds (ps := ["_law_value"]) fun _ _ _ _ _ _ us hl => match us, hl with | [_], _ => rfl
  have F14 := fun_mk (st := sLaw) l14 c14 k14
  have LTT : LT K mg (fun i => [f0, f1, f2, f3, f4, f5, f6, f7, f8, f9, f10].getD i 0) (fun i => [PySem.W.fnOf "_law_deck" "_law_deck" (defArgs sDeck) (defBody sDeck) (defScope sDeck) .none kV0 dc0 pm0 an0 cd0 ct0, PySem.W.fnOf "_law_take" "_law_take" (defArgs sTake) (defBody sTake) (defScope sTake) .none kV1 dc1 pm1 an1 cd1 ct1, PySem.W.fnOf "_law_one" "_law_one" (defArgs sOne) (defBody sOne) (defScope sOne) .none kV2 dc2 pm2 an2 cd2 ct2, PySem.W.fnOf "_law_number" "_law_number" (defArgs sNum) (defBody sNum) (defScope sNum) .none kV3 dc3 pm3 an3 cd3 ct3, PySem.W.fnOf "_law_odd" "_law_odd" (defArgs sOdd) (defBody sOdd) (defScope sOdd) .none kV4 dc4 pm4 an4 cd4 ct4, PySem.W.fnOf "_law_due" "_law_due" (defArgs sDue) (defBody sDue) (defScope sDue) .none kV5 dc5 pm5 an5 cd5 ct5, PySem.W.fnOf "_law_made" "_law_made" (defArgs sMade) (defBody sMade) (defScope sMade) .none kV6 dc6 pm6 an6 cd6 ct6, PySem.W.fnOf "_law_frac" "_law_frac" (defArgs sFrac) (defBody sFrac) (defScope sFrac) .none kV7 dc7 pm7 an7 cd7 ct7, PySem.W.fnOf "_law_near" "_law_near" (defArgs sNear) (defBody sNear) (defScope sNear) .none kV8 dc8 pm8 an8 cd8 ct8, PySem.W.fnOf "is_fraction" "is_fraction" (defArgs sIsF) (defBody sIsF) (defScope sIsF) .none kV9 dc9 pm9 an9 cd9 ct9, PySem.W.fnOf "_law_is_fraction" "_law_is_fraction" (defArgs sLif) (defBody sLif) (defScope sLif) .none kV10 dc10 pm10 an10 cd10 ct10].getD i (PySem.W.fnOf "law" "law" (defArgs sLaw) (defBody sLaw) (defScope sLaw) .none kV14 dc14 pm14 an14 cd14 ct14)) := ⟨(PySem.W.mg_of X G a0), (PySem.W.mg_of X G a1), (PySem.W.mg_of X G a2), (PySem.W.mg_of X G a3), (PySem.W.mg_of X G a4), (PySem.W.mg_of X G a5), (PySem.W.mg_of X G a6), (PySem.W.mg_of X G a7), (PySem.W.mg_of X G a8), (PySem.W.mg_of X G a9), (PySem.W.mg_of X G a10), (fun i hi => match i, hi with | 0, _ => k0 | 1, _ => k1 | 2, _ => k2 | 3, _ => k3 | 4, _ => k4 | 5, _ => k5 | 6, _ => k6 | 7, _ => k7 | 8, _ => k8 | 9, _ => k9 | 10, _ => k10), b0, b1, b2, b3, b4, b5, b6, b7, b8, b9, b10, (PySem.W.mg_none_of X G z_repr), (PySem.W.mg_none_of X G z_range), (PySem.W.mg_none_of X G z_abs)⟩
  refine ⟨PySem.W.fnOf "law" "law" (defArgs sLaw) (defBody sLaw) (defScope sLaw) .none kV14 dc14 pm14 an14 cd14 ct14, fun s v => .of_eq rfl, fun base _ _ sm => ?_⟩
  have GW := ok_whole (P := l.prog) (w := w) (base := base) (k := 0) F11 (PySem.W.mg_none_of X G z_isinstance) (PySem.W.mg_none_of X G z_int) (PySem.W.mg_none_of X G z_bool)
  have GI := ok_int (P := l.prog) (w := w) (base := base) (k := 0) F13 (PySem.W.mg_none_of X G z_isinstance) (PySem.W.mg_none_of X G z_int) (PySem.W.mg_none_of X G z_bool)
  have GC := ok_cd (P := l.prog) (w := w) (base := base) (k := 0) F12 (PySem.W.mg_none_of X G z_abs)
  have GT := ok_take (P := l.prog) (w := w) (base := base) (k := 0) F1 (PySem.W.mg_none_of X G z_int)
  have GO := ok_one (P := l.prog) (w := w) (base := base) F2 k1 b1 (PySem.W.mg_of X G a1) GT (PySem.W.mg_none_of X G z_len)
  have GF := ok_frac (P := l.prog) (w := w) (base := base) (k := 0) F7 (PySem.W.mg_none_of X G z_abs) (PySem.W.mg_none_of X G z_int)
  have GR := ok_fr (P := l.prog) (w := w) (base := base) FF T ec.sub ty (PySem.W.mg_of X G a11) k11 b11 GW (PySem.W.mg_of X G a12) k12 b12 GC
  exact ok_law F14 LTT sm (ok_deck F0 (PySem.W.mg_none_of X G z_len) (PySem.W.mg_none_of X G z_abs) (PySem.W.mg_none_of X G z_int)) GT GO (ok_num F3 k2 b2 (PySem.W.mg_of X G a2) GO k1 b1 (PySem.W.mg_of X G a1) GT) (ok_odd F4 k2 b2 (PySem.W.mg_of X G a2) GO) (ok_due F5 (PySem.W.mg_of X G a13) k13 b13 GI (PySem.W.mg_of X G a7) k7 b7 GF)
    (ok_made F6 FF (PySem.W.mg_of X G aF) GR T ec cg te kP kV (PySem.W.mg_of X G aP) (PySem.W.mg_none_of X G z_isinstance) (PySem.W.mg_none_of X G z_ValueError)) GF (ok_near F8 (PySem.W.mg_none_of X G z_str)) (ok_isf F9 (PySem.W.mg_none_of X G z_isinstance) (PySem.W.mg_none_of X G z_tuple) (PySem.W.mg_none_of X G z_len) (PySem.W.mg_of X G a11) k11 b11 GW (PySem.W.mg_of X G a12) k12 b12 GC) (ok_lif F10 (PySem.W.mg_none_of X G z_isinstance) (PySem.W.mg_none_of X G z_tuple) (PySem.W.mg_none_of X G z_len) (PySem.W.mg_of X G a13) k13 b13 GI (PySem.W.mg_of X G a7) k7 b7 GF)
end K01

set_option Elab.async false
set_option linter.all false
open PySem PySem.W PyProof.Rows
set_option maxRecDepth 100000 in
set_option maxHeartbeats 0 in
theorem PySem.Challenge.cw_lesslater_k01_fractions_made_holds : PySem.Challenge.rw_lesslater_k01_fractions_made.Holds := by
  w_on; o_law; k_head; (case hw => w_witness2)
  k_fill
  refine LL.walk_G (l := PySem.Challenge.rw_lesslater_k01_fractions_made) (n := 63) (k := 5) (x := "_law_script") (sp := fun w => K01.spLaw _) rfl (by decide) rfl (by decide +kernel) ⟨rfl, by decide, by decide⟩ (fun w h Y => PySem.W.kIn_of Y) ?F (fun _ _ a ns hl _ _ hS => ⟨a, ns, rfl, hS, hl, fun _ => rfl⟩)
  case F =>
    intro w mg fa h KX G hmg
    refine' K01.all_mk KX G hmg ?aC ?aP ?ee ?tt ?no ?iC ?tI ?lI ?cI ?kI ?ty ?te ?kP ?kV ?aF ?lF ?cF ?kF ?lT ?a0 ?l0 ?c0 ?k0 ?a1 ?l1 ?c1 ?k1 ?a2 ?l2 ?c2 ?k2 ?a3 ?l3 ?c3 ?k3 ?a4 ?l4 ?c4 ?k4 ?a5 ?l5 ?c5 ?k5 ?a6 ?l6 ?c6 ?k6 ?a7 ?l7 ?c7 ?k7 ?a8 ?l8 ?c8 ?k8 ?a9 ?l9 ?c9 ?k9 ?a10 ?l10 ?c10 ?k10 ?a11 ?l11 ?c11 ?k11 ?a12 ?l12 ?c12 ?k12 ?a13 ?l13 ?c13 ?k13 ?a14 ?l14 ?c14 ?k14 ?z_len ?z_abs ?z_int ?z_bool ?z_tuple ?z_str ?z_isinstance ?z_ValueError ?z_repr ?z_range ?sp ?tk
    (case aC => k_is)
    (case aP => k_is)
    (case ee => kernel_rfl)
    (case tt => kernel_rfl)
    (case no => k_is)
    (case iC => k_is)
    (case tI => k_is)
    (case lI => k_is)
    (case cI => k_is)
    (case kI => k_is)
    (case ty => k_is)
    (case te => first | k_is | kernel_rfl)
    (case kP => kernel_rfl)
    (case kV => kernel_rfl)
    (case aF => k_is)
    (case lF => k_is)
    (case cF => k_is)
    (case kF => k_is)
    (case lT => k_is)
    (case a0 => k_is)
    (case l0 => k_is)
    (case c0 => k_is)
    (case k0 => k_is)
    (case a1 => k_is)
    (case l1 => k_is)
    (case c1 => k_is)
    (case k1 => k_is)
    (case a2 => k_is)
    (case l2 => k_is)
    (case c2 => k_is)
    (case k2 => k_is)
    (case a3 => k_is)
    (case l3 => k_is)
    (case c3 => k_is)
    (case k3 => k_is)
    (case a4 => k_is)
    (case l4 => k_is)
    (case c4 => k_is)
    (case k4 => k_is)
    (case a5 => k_is)
    (case l5 => k_is)
    (case c5 => k_is)
    (case k5 => k_is)
    (case a6 => k_is)
    (case l6 => k_is)
    (case c6 => k_is)
    (case k6 => k_is)
    (case a7 => k_is)
    (case l7 => k_is)
    (case c7 => k_is)
    (case k7 => k_is)
    (case a8 => k_is)
    (case l8 => k_is)
    (case c8 => k_is)
    (case k8 => k_is)
    (case a9 => k_is)
    (case l9 => k_is)
    (case c9 => k_is)
    (case k9 => k_is)
    (case a10 => k_is)
    (case l10 => k_is)
    (case c10 => k_is)
    (case k10 => k_is)
    (case a11 => k_is)
    (case l11 => k_is)
    (case c11 => k_is)
    (case k11 => k_is)
    (case a12 => k_is)
    (case l12 => k_is)
    (case c12 => k_is)
    (case k12 => k_is)
    (case a13 => k_is)
    (case l13 => k_is)
    (case c13 => k_is)
    (case k13 => k_is)
    (case a14 => k_is)
    (case l14 => k_is)
    (case c14 => k_is)
    (case k14 => k_is)
    (case z_len => k_is)
    (case z_abs => k_is)
    (case z_int => k_is)
    (case z_bool => k_is)
    (case z_tuple => k_is)
    (case z_str => k_is)
    (case z_isinstance => k_is)
    (case z_ValueError => k_is)
    (case z_repr => k_is)
    (case z_range => k_is)
    (case sp => k_is)
    (case tk => k_is)
