"""Programs with effects, their normal forms, certificates, worlds and machines."""
